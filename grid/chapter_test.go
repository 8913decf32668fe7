package grid

import (
	"math/rand"
	"slices"
	"testing"

	"widgetry/api"
	"widgetry/box"
	"widgetry/fixed"
)

// reading is P19.2 and P19.3 sentence by sentence, for valid arguments.
type reading struct {
	gap         int
	tracks      []api.Track
	items       []api.Extent
	least, most []int
}

// read returns the least and most sizes in the words of P19.2.
func read(gap int, tracks []api.Track, items []api.Extent) *reading {
	r := &reading{gap, tracks, items, make([]int, len(tracks)), make([]int, len(tracks))}
	for i, t := range tracks {
		if t.Kind == api.TrackFixed {
			r.least[i], r.most[i] = t.N, t.N
			continue
		}
		mins, maxes := []int{0}, []int{0}
		for _, x := range items {
			if x.Span == 1 && x.At == i {
				mins, maxes = append(mins, x.Min), append(maxes, x.Max)
			}
		}
		r.least[i], r.most[i] = slices.Max(mins), slices.Max(maxes)
		if r.most[i] < r.least[i] {
			r.most[i] = r.least[i]
		}
	}
	for _, x := range items {
		if x.Span > 1 {
			r.enlarge(r.least, x, x.Min)
		}
	}
	for _, x := range items {
		if x.Span > 1 {
			r.enlarge(r.most, x, x.Max)
		}
	}
	for i := range tracks {
		if r.most[i] < r.least[i] {
			r.most[i] = r.least[i]
		}
	}
	return r
}

// enlarge treats an item that covers more than one track.
func (r *reading) enlarge(sizes []int, x api.Extent, need int) {
	d := need
	byKind := map[int][]int{}
	for i := x.At; i < x.At+x.Span; i++ {
		d -= sizes[i]
		if i > x.At {
			d -= r.gap
		}
		byKind[r.tracks[i].Kind] = append(byKind[r.tracks[i].Kind], i)
	}
	if d <= 0 {
		return
	}
	chosen := byKind[api.TrackAuto]
	if len(byKind[api.TrackFraction]) > 0 {
		chosen = byKind[api.TrackFraction]
	}
	parts, _ := fixed.Share(d, slices.Repeat([]int{1}, len(chosen)))
	for k, i := range chosen {
		sizes[i] += parts[k]
	}
}

// sizes returns the sizes of the tracks in the words of P19.3.
func (r *reading) sizes(available int) []int {
	space := available
	for i := range r.tracks {
		if i > 0 {
			space -= r.gap
		}
	}
	free, w := space, 0
	var autos, differences []int
	for i, t := range r.tracks {
		free -= r.least[i]
		if t.Kind == api.TrackAuto {
			w += r.most[i] - r.least[i]
			autos, differences = append(autos, i), append(differences, r.most[i]-r.least[i])
		}
	}
	sizes := slices.Clone(r.least)
	if free > 0 {
		grow := differences
		if w > free {
			grow, _ = fixed.Share(free, differences)
		}
		for k, i := range autos {
			sizes[i] += grow[k]
		}
	}
	r.fractions(space, sizes)
	return sizes
}

func (r *reading) fractions(space int, sizes []int) {
	rest := space
	var elements []api.Flex
	for i, t := range r.tracks {
		if t.Kind != api.TrackFraction {
			rest -= sizes[i]
			continue
		}
		elements = append(elements, api.Flex{Basis: 0, Min: min(r.least[i], most), Max: most, Grow: t.N, Shrink: 0})
	}
	if rest < 0 {
		rest = 0
	}
	parts, _ := box.Resolve(min(rest, most), 0, elements)
	for i, t := range r.tracks {
		if t.Kind == api.TrackFraction {
			sizes[i], parts = parts[0], parts[1:]
		}
	}
}

// sumWith returns the sum of the sizes, with the gap between each two of them.
func sumWith(gap int, sizes []int) int {
	sum := 0
	for i, s := range sizes {
		if i > 0 {
			sum += gap
		}
		sum += s
	}
	return sum
}

// testGrid compares all functions with the reading, and checks P19.5.
func testGrid(t *testing.T, gap int, tracks []api.Track, items []api.Extent, spaces ...int) {
	t.Helper()
	oldTracks, oldItems := slices.Clone(tracks), slices.Clone(items)
	r := read(gap, tracks, items)
	least, greatest := Least(gap, tracks, items), Most(gap, tracks, items)
	if want := sumWith(gap, r.least); least != want {
		t.Fatalf("P19.4: Least(%d, %v, %v) = %d, want %d", gap, tracks, items, least, want)
	}
	if want := sumWith(gap, r.most); greatest != want {
		t.Fatalf("P19.4: Most(%d, %v, %v) = %d, want %d", gap, tracks, items, greatest, want)
	}
	// Around these two the tracks begin and cease to grow.
	for _, available := range append(spaces, 0, least-1, least, least+1, greatest-1, greatest, greatest+1, most) {
		if available < 0 || available > most {
			continue
		}
		got, e := Tracks(available, gap, tracks, items)
		if want := r.sizes(available); !slices.Equal(got, want) || e != api.OK {
			t.Fatalf("P19.3: Tracks(%d, %d, %v, %v) = %v, %d, want %v", available, gap, tracks, items, got, e, want)
		}
		testFilled(t, r, available, got)
	}
	if !slices.Equal(oldTracks, tracks) || !slices.Equal(oldItems, items) {
		t.Fatalf("R2: an argument has changed: %v, %v", oldTracks, oldItems)
	}
}

// testFilled checks what P19.5 says of the sizes, and the positions of the tracks.
func testFilled(t *testing.T, r *reading, available int, sizes []int) {
	t.Helper()
	fills := false
	for i, x := range r.tracks {
		if sizes[i] < r.least[i] {
			t.Fatalf("P19.5: Tracks(%d, %d, %v, %v) = %v: the track %d is too small", available, r.gap, r.tracks, r.items, sizes, i)
		}
		fills = fills || x.Kind == api.TrackFraction
	}
	if fills && available >= sumWith(r.gap, r.least) && sumWith(r.gap, sizes) != available {
		t.Fatalf("P19.5: Tracks(%d, %d, %v, %v) = %v does not fill the space", available, r.gap, r.tracks, r.items, sizes)
	}
	starts := Starts(r.gap, sizes)
	if len(starts) != len(sizes) {
		t.Fatalf("P19.4: Starts(%d, %v) = %v", r.gap, sizes, starts)
	}
	for i, at := range starts {
		if i == 0 && at != 0 || i > 0 && at != starts[i-1]+sizes[i-1]+r.gap {
			t.Fatalf("P19.4: Starts(%d, %v) = %v: the track %d", r.gap, sizes, starts, i)
		}
	}
}

// TestTracksSmall tries two items of each place and of small sizes on all grids of three small tracks.
func TestTracksSmall(t *testing.T) {
	tracks := []api.Track{fixedTrack(2), autoTrack(), fraction(1), fraction(2)}
	var items []api.Extent
	for at := range 3 {
		for span := 1; at+span <= 3; span++ {
			for _, x := range [][2]int{{0, 4}, {3, 8}, {7, 5}} {
				items = append(items, item(at, span, x[0], x[1]))
			}
		}
	}
	for _, a := range tracks {
		for _, b := range tracks {
			for _, c := range tracks {
				l := []api.Track{a, b, c}
				testGrid(t, 0, l, nil, 1, 3, 5, 9)
				for k, x := range items {
					testGrid(t, 1, l, []api.Extent{x}, 4, 9, 13)
					for _, y := range items {
						testGrid(t, k%3, l, []api.Extent{x, y}, 6, 11)
					}
				}
			}
		}
	}
}

// chance returns a grid whose numbers are at most n, apart from some that are the greatest.
func chance(r *rand.Rand, count, n int) ([]api.Track, []api.Extent) {
	length := func() int {
		switch r.Intn(10) {
		case 0:
			return 0
		case 1:
			return []int{n, n, n, most}[r.Intn(4)]
		}
		return r.Intn(n + 1)
	}
	tracks := make([]api.Track, count)
	for i := range tracks {
		tracks[i] = []api.Track{fixedTrack(length()), autoTrack(), autoTrack(), fraction(1 + r.Intn(3)), fraction(1 + r.Intn(1000))}[r.Intn(5)]
	}
	var items []api.Extent
	if count > 0 {
		items = make([]api.Extent, r.Intn(count+4))
	}
	for i := range items {
		at := r.Intn(count)
		span := 1
		if r.Intn(2) == 0 {
			span += r.Intn(count - at)
		}
		items[i] = item(at, span, length(), length())
	}
	return tracks, items
}

// TestTracksChance tries grids of all sizes that are made by chance.
func TestTracksChance(t *testing.T) {
	r := rand.New(rand.NewSource(19))
	for round := range 60000 {
		n := []int{3, 9, 100, 5000, most}[round%5]
		count := r.Intn(6)
		if round%20 == 0 {
			count = r.Intn(api.MaxTracks + 1)
		}
		tracks, items := chance(r, count, n)
		gap := []int{0, r.Intn(3), r.Intn(n + 1)}[r.Intn(3)]
		testGrid(t, gap, tracks, items, r.Intn(n+1), r.Intn(min(most, n*(count+1)))+1, (Least(gap, tracks, items)+Most(gap, tracks, items))/2)
	}
}

// TestSharedMemory changes results, which must not change arguments or later results (R2).
func TestSharedMemory(t *testing.T) {
	tracks, items := []api.Track{fixedTrack(3), autoTrack(), fraction(2)}, []api.Extent{single(1, 2, 5), item(0, 3, 9, 12)}
	for _, available := range []int{0, 9, 30} {
		first, _ := Tracks(available, 0, tracks, items)
		want := slices.Clone(first)
		clear(first)
		if again, _ := Tracks(available, 0, tracks, items); !slices.Equal(again, want) {
			t.Errorf("R2: Tracks(%d, 0, %v, %v) = %v after %v", available, tracks, items, again, want)
		}
	}
	sizes := []int{3, 4, 5}
	if starts := Starts(0, sizes); len(starts) == 3 {
		starts[0], starts[1], starts[2] = -7, -7, -7
	}
	if !slices.Equal(sizes, []int{3, 4, 5}) {
		t.Errorf("R2: the result of Starts shares memory with the sizes %v", sizes)
	}
	first := Place(2, sizes)
	want := slices.Clone(first)
	clear(first)
	if again := Place(2, sizes); !slices.Equal(again, want) {
		t.Errorf("R2: Place(2, %v) = %v after %v", sizes, again, want)
	}
}
