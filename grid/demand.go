package grid

import (
	"slices"

	"widgetry/api"
	"widgetry/box"
	"widgetry/fixed"
)

const mostFraction = 1000 // the greatest N of a track with a fraction

// demand is what the items of a grid demand of its tracks. No size exceeds MaxLength: an item makes its tracks together no larger than what it needs.
type demand struct {
	gap         int
	tracks      []api.Track
	least, most []int // the sizes of the tracks
}

func check(available, gap int, tracks []api.Track, items []api.Extent) api.Errno {
	if len(tracks) > api.MaxTracks || len(items) > api.MaxKids {
		return api.ErrTooLong
	}
	if !lengths(available, gap) {
		return api.ErrRange
	}
	for _, t := range tracks {
		if !validTrack(t) {
			return api.ErrRange
		}
	}
	for _, x := range items {
		if !validItem(x, len(tracks)) {
			return api.ErrRange
		}
	}
	return api.OK
}

func validTrack(t api.Track) bool {
	switch t.Kind {
	case api.TrackFixed:
		return lengths(t.N)
	case api.TrackAuto:
		return t.N == 0
	case api.TrackFraction:
		return within(t.N, 1, mostFraction)
	}
	return false
}

// validItem reports whether x is a valid item of a grid with so many tracks.
func validItem(x api.Extent, tracks int) bool {
	return lengths(x.Min, x.Max) && within(x.At, 0, tracks-1) && within(x.Span, 1, tracks-x.At)
}

func newDemand(gap int, tracks []api.Track, items []api.Extent) *demand {
	d := &demand{gap: gap, tracks: tracks, least: make([]int, len(tracks)), most: make([]int, len(tracks))}
	d.fitSingle(items)
	// Min changes only the least sizes and Max only the most ones, so that neither has to wait for the other.
	for _, x := range items {
		d.widen(d.least, x, x.Min)
		d.widen(d.most, x, x.Max)
	}
	for i, size := range d.least {
		d.most[i] = max(d.most[i], size)
	}
	return d
}

// fitSingle gives each track its fixed size, or the sizes that the items in this track alone demand.
func (d *demand) fitSingle(items []api.Extent) {
	for i, t := range d.tracks {
		if t.Kind == api.TrackFixed {
			d.least[i], d.most[i] = t.N, t.N
		}
	}
	for _, x := range items {
		if x.Span == 1 && d.tracks[x.At].Kind != api.TrackFixed {
			d.least[x.At] = max(d.least[x.At], x.Min)
			d.most[x.At] = max(d.most[x.At], x.Min, x.Max)
		}
	}
}

// widen changes sizes, the least or the most ones, so that the tracks of an item together have the size that it needs, if one of them can grow. An item with one track has it already.
func (d *demand) widen(sizes []int, x api.Extent, need int) {
	end := x.At + x.Span
	covered := sizes[x.At:end]
	weights := growing(d.tracks[x.At:end])
	// There is no error: what is missing is at most MaxLength, and there are at most MaxTracks weights.
	parts, _ := fixed.Share(max(need-extent(d.gap, covered), 0), weights)
	for i, part := range parts {
		covered[i] += part
	}
}

// growing returns the weight 1 for each of the tracks that grow for an item that covers all of them: those with a fraction, or if there is none, those sized by content.
func growing(tracks []api.Track) []int {
	kind := api.TrackAuto
	if slices.ContainsFunc(tracks, isFraction) {
		kind = api.TrackFraction
	}
	weights := make([]int, len(tracks))
	for i, t := range tracks {
		if t.Kind == kind {
			weights[i] = 1
		}
	}
	return weights
}

// contentSizes returns the least sizes, from which the tracks sized by content have grown towards their most sizes, as far as there is space.
func (d *demand) contentSizes(space int) []int {
	growth := make([]int, len(d.tracks))
	for i, t := range d.tracks {
		if t.Kind == api.TrackAuto {
			growth[i] = d.most[i] - d.least[i]
		}
	}
	free := max(space-sumOf(d.least), 0)
	if sumOf(growth) > free {
		// There is no error: the free space and each growth are at most MaxLength.
		growth, _ = fixed.Share(free, growth)
	}
	sizes := slices.Clone(d.least)
	for i, g := range growth {
		sizes[i] += g
	}
	return sizes
}

// fill changes the sizes of the tracks with a fraction, among which it divides what the others leave of the space.
func (d *demand) fill(space int, sizes []int) {
	var fractions []int
	var elements []api.Flex
	for i, t := range d.tracks {
		if isFraction(t) {
			fractions = append(fractions, i)
			elements = append(elements, api.Flex{Min: d.least[i], Max: api.MaxLength, Grow: t.N})
		} else {
			space -= sizes[i]
		}
	}
	// There is no error: neither the space nor a least size exceeds MaxLength.
	parts, _ := box.Resolve(max(space, 0), 0, elements)
	for k, part := range parts {
		sizes[fractions[k]] = part
	}
}

func isFraction(t api.Track) bool {
	return t.Kind == api.TrackFraction
}
