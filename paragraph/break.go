package paragraph

// ends returns where the lines of s end.
func (t *text) ends(s section) []int {
	if s.from == s.to {
		return []int{s.to}
	}
	var ends []int
	for from := s.from; from < s.to; {
		from = t.end(s, from)
		ends = append(ends, from)
	}
	return ends
}

// end returns where the line of s that begins at from ends.
func (t *text) end(s section, from int) int {
	stops := t.stopsIn(s, from)
	if end := t.lastFitting(s, from, stops); end > from {
		return end
	}
	// The last one of these is the first stop itself, which is taken only if there is no other.
	clusters := between(t.clusters, from+1, stops[0])
	// A line that is too narrow for a single cluster contains it nevertheless.
	return max(clusters[0], t.lastFitting(s, from, clusters))
}

// lastFitting returns the last one of the ascending positions before the first one up to which the line is too wide, or from if that is the first of all.
func (t *text) lastFitting(s section, from int, positions []int) int {
	end := from
	for _, to := range positions {
		if t.fitting(s, from, to) > t.Width {
			break
		}
		end = to
	}
	return end
}
