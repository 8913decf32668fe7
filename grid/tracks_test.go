package grid

import (
	"math"
	"slices"
	"testing"

	"widgetry/api"
)

func fixedTrack(n int) api.Track { return api.Track{Kind: api.TrackFixed, N: n} }

func autoTrack() api.Track { return api.Track{Kind: api.TrackAuto} }

func fraction(n int) api.Track { return api.Track{Kind: api.TrackFraction, N: n} }

// single is an item in one track.
func single(at, least, greatest int) api.Extent { return item(at, 1, least, greatest) }

func item(at, span, least, greatest int) api.Extent {
	return api.Extent{At: at, Span: span, Min: least, Max: greatest}
}

// demandCase is a grid with its least and most extents, and with the sizes of its tracks by the available space.
type demandCase struct {
	gap         int
	tracks      []api.Track
	items       []api.Extent
	least, most int
	sizes       map[int][]int
}

func testDemands(t *testing.T, tests []demandCase) {
	t.Helper()
	for _, x := range tests {
		if got := Least(x.gap, x.tracks, x.items); got != x.least {
			t.Errorf("P19.4: Least(%d, %v, %v) = %d, want %d", x.gap, x.tracks, x.items, got, x.least)
		}
		if got := Most(x.gap, x.tracks, x.items); got != x.most {
			t.Errorf("P19.4: Most(%d, %v, %v) = %d, want %d", x.gap, x.tracks, x.items, got, x.most)
		}
		for available, want := range x.sizes {
			if got, e := Tracks(available, x.gap, x.tracks, x.items); !slices.Equal(got, want) || e != api.OK {
				t.Errorf("P19.3: Tracks(%d, %d, %v, %v) = %v, %d, want %v", available, x.gap, x.tracks, x.items, got, e, want)
			}
		}
	}
}

// TestFixed contains tracks whose sizes items cannot change.
func TestFixed(t *testing.T) {
	testDemands(t, []demandCase{
		{5, nil, nil, 0, 0, map[int][]int{0: nil, 100: nil}},
		{most, []api.Track{}, []api.Extent{}, 0, 0, map[int][]int{0: nil, most: nil}},
		{most, []api.Track{fixedTrack(20)}, nil, 20, 20, map[int][]int{0: {20}, 20: {20}, 100: {20}}},
		{5, []api.Track{fixedTrack(20), fixedTrack(0), fixedTrack(7)}, nil, 37, 37, map[int][]int{0: {20, 0, 7}, 100: {20, 0, 7}}},
		{0, []api.Track{fixedTrack(20)}, []api.Extent{single(0, 50, 90)}, 20, 20, map[int][]int{0: {20}, 100: {20}}},
		{0, []api.Track{fixedTrack(20), fixedTrack(3)}, []api.Extent{item(0, 2, 50, 90), single(1, 4, 4)}, 23, 23, map[int][]int{0: {20, 3}, 100: {20, 3}}},
	})
}

// TestAuto contains tracks that are sized by items in them alone.
func TestAuto(t *testing.T) {
	two := []api.Track{autoTrack(), autoTrack()}
	testDemands(t, []demandCase{
		{0, []api.Track{autoTrack()}, nil, 0, 0, map[int][]int{0: {0}, 100: {0}}},
		{9, []api.Track{autoTrack()}, []api.Extent{single(0, 3, 8)}, 3, 8, map[int][]int{0: {3}, 2: {3}, 3: {3}, 4: {4}, 7: {7}, 8: {8}, 9: {8}, 100: {8}}},
		// The greatest Min and the greatest Max count, whichever items have them.
		{0, []api.Track{autoTrack()}, []api.Extent{single(0, 3, 8), single(0, 5, 6), single(0, 1, 9), single(0, 4, 0)}, 5, 9, map[int][]int{0: {5}, 7: {7}, 100: {9}}},
		// A Max that is less than a Min is not the most size.
		{0, []api.Track{autoTrack()}, []api.Extent{single(0, 30, 10)}, 30, 30, map[int][]int{0: {30}, 100: {30}}},
		{0, []api.Track{autoTrack()}, []api.Extent{single(0, 5, 20), single(0, 30, 10)}, 30, 30, map[int][]int{100: {30}}},
		{0, []api.Track{autoTrack()}, []api.Extent{single(0, 30, 10), single(0, 5, 40)}, 30, 40, map[int][]int{35: {35}, 100: {40}}},
		// What is free is shared in proportion to what the tracks can grow by.
		{0, two, []api.Extent{single(0, 10, 30), single(1, 10, 50)}, 20, 80, map[int][]int{
			0: {10, 10}, 5: {10, 10}, 20: {10, 10}, 21: {10, 11}, 22: {11, 11}, 23: {11, 12}, 50: {20, 30}, 79: {30, 49}, 80: {30, 50}, 81: {30, 50}, 500: {30, 50},
		}},
		{4, two, []api.Extent{single(1, 10, 50), single(0, 10, 30)}, 24, 84, map[int][]int{24: {10, 10}, 25: {10, 11}, 54: {20, 30}, 84: {30, 50}, 90: {30, 50}}},
		// A track that cannot grow gets nothing, and of two that can grow alike the first one gets what is left.
		{0, []api.Track{autoTrack(), autoTrack(), autoTrack()}, []api.Extent{single(0, 6, 6), single(1, 0, 10), single(2, 1, 11)}, 7, 27, map[int][]int{8: {6, 1, 1}, 9: {6, 1, 2}, 10: {6, 2, 2}}},
		// Fixed tracks take space, gaps too.
		{1, []api.Track{fixedTrack(10), autoTrack(), fixedTrack(4)}, []api.Extent{single(1, 2, 9)}, 18, 25, map[int][]int{0: {10, 2, 4}, 18: {10, 2, 4}, 20: {10, 4, 4}, 25: {10, 9, 4}, 30: {10, 9, 4}}},
		{50, two, []api.Extent{single(0, 1, 2), single(1, 1, 2)}, 52, 54, map[int][]int{3: {1, 1}, 49: {1, 1}, 50: {1, 1}, 53: {2, 1}, 54: {2, 2}}},
	})
}

// TestFraction contains tracks that fill what the others leave.
func TestFraction(t *testing.T) {
	testDemands(t, []demandCase{
		{most, []api.Track{fraction(1)}, nil, 0, 0, map[int][]int{0: {0}, 7: {7}, most: {most}}},
		{0, []api.Track{fraction(1), fraction(2)}, nil, 0, 0, map[int][]int{0: {0, 0}, 10: {3, 7}, 30: {10, 20}}},
		{0, []api.Track{fraction(1), fraction(1), fraction(1)}, nil, 0, 0, map[int][]int{10: {4, 3, 3}}},
		{0, []api.Track{fraction(1), fraction(1000)}, nil, 0, 0, map[int][]int{1001: {1, 1000}, 2002: {2, 2000}}},
		{5, []api.Track{fraction(1), fraction(1), fraction(1)}, nil, 10, 10, map[int][]int{0: {0, 0, 0}, 9: {0, 0, 0}, 10: {0, 0, 0}, 11: {1, 0, 0}, 40: {10, 10, 10}}},
		// A least size is a limit, and a most size is none.
		{0, []api.Track{fraction(1), fraction(2)}, []api.Extent{single(0, 15, 40)}, 15, 40, map[int][]int{0: {15, 0}, 15: {15, 0}, 30: {15, 15}, 45: {15, 30}, 60: {20, 40}, 300: {100, 200}}},
		{0, []api.Track{fraction(1)}, []api.Extent{single(0, 3, 8), single(0, 9, 2), single(0, 1, 11)}, 9, 11, map[int][]int{0: {9}, 9: {9}, 10: {10}, 50: {50}}},
		{0, []api.Track{fixedTrack(50), fraction(1)}, []api.Extent{single(1, 7, 9)}, 57, 59, map[int][]int{30: {50, 7}, 50: {50, 7}, 57: {50, 7}, 58: {50, 8}, 90: {50, 40}}},
		// Tracks sized by content grow first.
		{5, []api.Track{fixedTrack(20), autoTrack(), fraction(1)}, []api.Extent{single(1, 10, 30)}, 40, 60, map[int][]int{0: {20, 10, 0}, 40: {20, 10, 0}, 41: {20, 11, 0}, 60: {20, 30, 0}, 61: {20, 30, 1}, 100: {20, 30, 40}}},
		{0, []api.Track{fraction(3), autoTrack(), fraction(1)}, []api.Extent{single(1, 10, 30), single(2, 8, 9), single(0, 2, 2)}, 20, 41, map[int][]int{20: {2, 10, 8}, 30: {2, 20, 8}, 40: {2, 30, 8}, 50: {12, 30, 8}, 62: {24, 30, 8}, 70: {30, 30, 10}}},
		{5, []api.Track{autoTrack(), fraction(2)}, []api.Extent{single(0, 2, 9)}, 7, 14, map[int][]int{3: {2, 0}, 7: {2, 0}, 8: {3, 0}, 15: {9, 1}}},
	})
}

// TestSpans contains items that cover several tracks.
func TestSpans(t *testing.T) {
	two, three := []api.Track{autoTrack(), autoTrack()}, []api.Track{autoTrack(), autoTrack(), autoTrack()}
	testDemands(t, []demandCase{
		{4, two, []api.Extent{item(0, 2, 25, 41)}, 25, 41, map[int][]int{0: {11, 10}, 25: {11, 10}, 26: {12, 10}, 30: {14, 12}, 41: {19, 18}, 60: {19, 18}}},
		// The gaps alone are as large as the item, or larger.
		{4, two, []api.Extent{item(0, 2, 4, 4)}, 4, 4, map[int][]int{9: {0, 0}}},
		{4, three, []api.Extent{item(0, 3, 7, 9)}, 8, 9, map[int][]int{9: {1, 0, 0}}},
		// All tracks that are covered grow by equal parts, those with a fraction whatever their weights are; no other track grows.
		{0, []api.Track{autoTrack(), autoTrack(), autoTrack(), autoTrack()}, []api.Extent{item(1, 2, 9, 9)}, 9, 9, map[int][]int{0: {0, 5, 4, 0}}},
		{0, []api.Track{fraction(1), autoTrack(), fraction(3)}, []api.Extent{item(0, 3, 10, 10)}, 10, 10, map[int][]int{0: {5, 0, 5}, 10: {5, 0, 5}, 20: {5, 0, 15}, 40: {10, 0, 30}}},
		{1, []api.Track{autoTrack(), fraction(1), fixedTrack(3)}, []api.Extent{item(0, 3, 20, 30)}, 20, 30, map[int][]int{0: {0, 15, 3}, 20: {0, 15, 3}, 50: {0, 45, 3}}},
		// A track with a fraction that the item does not cover does not keep the others from growing.
		{0, []api.Track{autoTrack(), autoTrack(), fraction(1)}, []api.Extent{item(0, 2, 6, 6)}, 6, 6, map[int][]int{10: {3, 3, 4}}},
		{0, []api.Track{fraction(1), autoTrack(), autoTrack()}, []api.Extent{item(1, 2, 6, 6)}, 6, 6, map[int][]int{10: {4, 3, 3}}},
		// Without such tracks the others that are sized by content grow, never fixed ones.
		{1, []api.Track{fixedTrack(3), autoTrack()}, []api.Extent{item(0, 2, 10, 20)}, 10, 20, map[int][]int{0: {3, 6}, 15: {3, 11}, 30: {3, 16}}},
		{1, []api.Track{fixedTrack(3), fixedTrack(4)}, []api.Extent{item(0, 2, 50, 60)}, 8, 8, map[int][]int{100: {3, 4}}},
		{1, []api.Track{fixedTrack(30), autoTrack()}, []api.Extent{item(0, 2, 10, 20)}, 31, 31, map[int][]int{100: {30, 0}}},
		// Items with one track come first, and the others in order.
		{0, two, []api.Extent{item(0, 2, 10, 10), single(0, 6, 6)}, 10, 10, map[int][]int{10: {8, 2}}},
		{0, three, []api.Extent{item(0, 2, 10, 10), item(1, 2, 10, 10)}, 15, 15, map[int][]int{15: {5, 8, 2}}},
		{0, three, []api.Extent{item(1, 2, 10, 10), item(0, 2, 10, 10)}, 15, 15, map[int][]int{15: {3, 7, 5}}},
		{0, three, []api.Extent{item(0, 2, 10, 10), item(0, 3, 12, 14)}, 12, 14, map[int][]int{12: {6, 6, 0}, 14: {7, 6, 1}}},
		{0, three, []api.Extent{item(0, 3, 12, 14), item(0, 2, 10, 11)}, 14, 15, map[int][]int{14: {5, 5, 4}, 15: {6, 5, 4}}},
		{0, two, []api.Extent{item(0, 2, 9, 9), item(0, 2, 8, 30), item(0, 2, 11, 12)}, 11, 30, map[int][]int{11: {6, 5}, 40: {16, 14}}},
	})
}

// TestSpansMost contains most sizes of items that cover several tracks: those of single items are at least their least sizes before the others are treated, and all are at the end.
func TestSpansMost(t *testing.T) {
	two, three := []api.Track{autoTrack(), autoTrack()}, []api.Track{autoTrack(), autoTrack(), autoTrack()}
	testDemands(t, []demandCase{
		{0, two, []api.Extent{single(0, 10, 0), item(0, 2, 0, 30)}, 10, 30, map[int][]int{100: {20, 10}}},
		{0, two, []api.Extent{single(0, 10, 4), item(0, 2, 0, 12)}, 10, 12, map[int][]int{100: {11, 1}}},
		{0, two, []api.Extent{item(0, 2, 20, 0)}, 20, 20, map[int][]int{100: {10, 10}}},
		{0, three, []api.Extent{item(0, 2, 20, 0), item(1, 2, 0, 16)}, 20, 28, map[int][]int{100: {10, 10, 8}}},
		{0, three, []api.Extent{item(0, 2, 20, 6), item(1, 2, 0, 26)}, 20, 36, map[int][]int{100: {10, 15, 11}}},
		{0, three, []api.Extent{item(0, 2, 0, 6), item(1, 2, 0, 13)}, 0, 16, map[int][]int{100: {3, 8, 5}}},
		{3, []api.Track{autoTrack(), fraction(7)}, []api.Extent{single(0, 1, 4), single(1, 2, 9), item(0, 2, 11, 26)}, 11, 26, map[int][]int{0: {1, 7}, 11: {1, 7}, 14: {4, 7}, 20: {4, 13}, 50: {4, 43}}},
	})
}

// TestGreatest uses the greatest numbers and lists that are allowed.
func TestGreatest(t *testing.T) {
	all := func(x api.Track) []api.Track { return slices.Repeat([]api.Track{x}, api.MaxTracks) }
	ofTwo := func(first, n, second int) []int {
		return append(slices.Repeat([]int{first}, n), slices.Repeat([]int{second}, api.MaxTracks-n)...)
	}
	wide := slices.Repeat([]api.Extent{item(0, api.MaxTracks, most, most)}, api.MaxKids)
	var each []api.Extent
	for i := range api.MaxTracks {
		each = append(each, single(i, most, most))
	}
	testDemands(t, []demandCase{
		{most, all(fixedTrack(most)), nil, 47 * most, 47 * most, map[int][]int{0: ofTwo(most, 24, 0), most: ofTwo(most, 24, 0)}},
		{0, all(autoTrack()), wide, most, most, map[int][]int{0: ofTwo(43691, 16, 43690), most: ofTwo(43691, 16, 43690)}},
		{0, all(fraction(1000)), wide, most, most, map[int][]int{0: ofTwo(43691, 16, 43690), most: ofTwo(43691, 16, 43690)}},
		{0, all(fraction(1000)), nil, 0, 0, map[int][]int{0: ofTwo(0, 24, 0), most: ofTwo(43691, 16, 43690)}},
		{most, all(autoTrack()), each, 47 * most, 47 * most, map[int][]int{0: ofTwo(most, 24, 0), most: ofTwo(most, 24, 0)}},
		{most, all(fraction(1)), each, 47 * most, 47 * most, map[int][]int{0: ofTwo(most, 24, 0), most: ofTwo(most, 24, 0)}},
		{most, all(autoTrack()), wide, 23 * most, 23 * most, map[int][]int{most: ofTwo(0, 24, 0)}},
		{0, []api.Track{autoTrack(), autoTrack()}, []api.Extent{single(0, 0, most), single(1, 0, most)}, 0, 2 * most, map[int][]int{most: {most / 2, most / 2}, most - 1: {most / 2, most/2 - 1}}},
		{most, []api.Track{fixedTrack(most), fraction(1)}, []api.Extent{single(1, most, 0)}, 3 * most, 3 * most, map[int][]int{0: {most, most}, most: {most, most}}},
	})
}

// refused tests that no function accepts these arguments.
func refused(t *testing.T, want api.Errno, available, gap int, tracks []api.Track, items []api.Extent) {
	t.Helper()
	if got, e := Tracks(available, gap, tracks, items); len(got) > 0 || e != want {
		t.Errorf("P19.2: Tracks(%d, %d, %v, %v) = %v, %d, want the error %d", available, gap, tracks, items, got, e, want)
	}
	if got := Least(gap, tracks, items); got != 0 {
		t.Errorf("P19.2: Least(%d, %v, %v) = %d", gap, tracks, items, got)
	}
	if got := Most(gap, tracks, items); got != 0 {
		t.Errorf("P19.2: Most(%d, %v, %v) = %d", gap, tracks, items, got)
	}
}

func TestRefusedLengths(t *testing.T) {
	tracks, items := []api.Track{fixedTrack(4), autoTrack(), fraction(2)}, []api.Extent{single(1, 2, 3)}
	for _, n := range noLengths() {
		refused(t, api.ErrRange, 9, n, tracks, items)
		refused(t, api.ErrRange, n, n, tracks, items)
		refused(t, api.ErrRange, 9, n, nil, nil)
		refused(t, api.ErrRange, 9, n, []api.Track{fixedTrack(1)}, nil)
		for _, l := range [][]api.Track{tracks, nil} {
			if got, e := Tracks(n, 1, l, nil); len(got) > 0 || e != api.ErrRange {
				t.Errorf("P19.2: Tracks(%d, 1, %v, nil) = %v, %d", n, l, got, e)
			}
		}
	}
	// Least and Most have no available space.
	if got := Least(1, tracks, items); got != 8 {
		t.Errorf("P19.4: Least(1, %v, %v) = %d", tracks, items, got)
	}
	for _, n := range []int{0, most} {
		if _, e := Tracks(n, most-n, tracks, items); e != api.OK {
			t.Errorf("P19.2: Tracks(%d, %d, %v, %v): the error %d", n, most-n, tracks, items, e)
		}
	}
}

func TestRefusedTracks(t *testing.T) {
	var bad []api.Track
	for _, n := range noLengths() {
		bad = append(bad, fixedTrack(n))
	}
	for _, n := range []int{math.MinInt, -1, 1, 2, 1000, most, math.MaxInt} {
		bad = append(bad, api.Track{Kind: api.TrackAuto, N: n})
	}
	for _, n := range []int{math.MinInt, -1, 0, 1001, 1002, most, 1 << 32, math.MaxInt} {
		bad = append(bad, fraction(n))
	}
	for _, kind := range []int{math.MinInt, -2, -1, 3, 4, 1 << 32, math.MaxInt} {
		bad = append(bad, api.Track{Kind: kind}, api.Track{Kind: kind, N: 1}, api.Track{Kind: kind, N: -1})
	}
	good := []api.Track{fixedTrack(4), autoTrack(), fraction(2)}
	for _, x := range bad {
		refused(t, api.ErrRange, 9, 1, []api.Track{x}, nil)
		refused(t, api.ErrRange, 9, 1, []api.Track{x}, []api.Extent{single(0, 1, 1)})
		refused(t, api.ErrRange, 9, 1, []api.Track{x, x}, []api.Extent{single(2, 1, 1)})
		for i := range 4 {
			refused(t, api.ErrRange, 9, 1, slices.Insert(slices.Clone(good), i, x), nil)
		}
		refused(t, api.ErrRange, 9, 1, append(slices.Repeat(good[:1], api.MaxTracks-1), x), nil)
	}
	for _, x := range []api.Track{fixedTrack(0), fixedTrack(1), fixedTrack(most), autoTrack(), fraction(1), fraction(1000)} {
		if got, e := Tracks(9, 1, []api.Track{x}, []api.Extent{single(0, 1, 1)}); len(got) != 1 || e != api.OK {
			t.Errorf("P19.2: Tracks(9, 1, {%v}, ..) = %v, %d", x, got, e)
		}
	}
}

func TestRefusedItems(t *testing.T) {
	tracks := []api.Track{fixedTrack(4), autoTrack(), fraction(2)}
	var bad []api.Extent
	for _, n := range noLengths() {
		bad = append(bad, single(0, n, 5), single(1, 5, n), single(2, n, n), item(0, 3, n, 5), item(0, 2, 5, n))
	}
	for _, at := range []int{math.MinInt, math.MinInt + 1, -2, -1, 3, 4, 1 << 32, math.MaxInt - 1, math.MaxInt} {
		for _, span := range []int{math.MinInt, -1, 0, 1, 2, 3, 4, math.MaxInt, 3 - at} {
			bad = append(bad, item(at, span, 1, 1))
		}
	}
	for at := range 3 {
		for _, span := range []int{math.MinInt, math.MinInt + 1, -1, 0, 4 - at, 5 - at, 1 << 32, math.MaxInt - 1, math.MaxInt} {
			bad = append(bad, item(at, span, 1, 1))
		}
	}
	good := []api.Extent{single(0, 1, 2), item(0, 3, 9, 12), item(1, 2, 0, 0)}
	for _, x := range bad {
		refused(t, api.ErrRange, 9, 1, tracks, []api.Extent{x})
		for i := range 4 {
			refused(t, api.ErrRange, 9, 1, tracks, slices.Insert(slices.Clone(good), i, x))
		}
		refused(t, api.ErrRange, 9, 1, tracks, append(slices.Repeat(good[:1], api.MaxKids-1), x))
	}
	// Without tracks there is none that an item could be in.
	for _, x := range []api.Extent{{}, single(0, 0, 0), single(-1, 0, 0), item(0, 0, 0, 0), item(-1, 0, 0, 0)} {
		refused(t, api.ErrRange, 9, 1, nil, []api.Extent{x})
	}
	for at := range 3 {
		for span := 1; at+span <= 3; span++ {
			for _, n := range []int{0, most} {
				if got, e := Tracks(9, 1, tracks, []api.Extent{item(at, span, n, most-n)}); len(got) != 3 || e != api.OK {
					t.Errorf("P19.2: Tracks with the item %v: %v, %d", item(at, span, n, most-n), got, e)
				}
			}
		}
	}
}

// TestRefusedTooLong also passes arguments with several errors, of which that of the lengths of lists comes first.
func TestRefusedTooLong(t *testing.T) {
	for _, x := range []api.Track{fixedTrack(1), autoTrack(), fraction(1), fixedTrack(-1), {Kind: 3}} {
		for _, n := range []int{api.MaxTracks + 1, api.MaxTracks + 2, 1 << 16} {
			tracks := slices.Repeat([]api.Track{x}, n)
			refused(t, api.ErrTooLong, 9, 1, tracks, nil)
			refused(t, api.ErrTooLong, -1, 1, tracks, nil)
			refused(t, api.ErrTooLong, 9, -1, tracks, nil)
			refused(t, api.ErrTooLong, 9, most+1, tracks, []api.Extent{single(-1, -1, -1)})
			refused(t, api.ErrTooLong, 9, 1, tracks, make([]api.Extent, api.MaxKids+1))
		}
	}
	for _, x := range []api.Extent{single(0, 1, 1), item(0, 2, 1, 1), {}, single(-1, -1, most+1)} {
		for _, n := range []int{api.MaxKids + 1, api.MaxKids + 2, 1 << 16} {
			items := slices.Repeat([]api.Extent{x}, n)
			refused(t, api.ErrTooLong, 9, 1, []api.Track{autoTrack(), autoTrack()}, items)
			refused(t, api.ErrTooLong, -1, 1, []api.Track{autoTrack()}, items)
			refused(t, api.ErrTooLong, 9, -1, []api.Track{autoTrack()}, items)
			refused(t, api.ErrTooLong, 9, 1, []api.Track{{Kind: 3}}, items)
			refused(t, api.ErrTooLong, 9, 1, nil, items)
		}
	}
	tracks, items := slices.Repeat([]api.Track{autoTrack()}, api.MaxTracks), slices.Repeat([]api.Extent{single(23, 1, 1)}, api.MaxKids)
	if got, e := Tracks(9, 0, tracks, items); len(got) != api.MaxTracks || e != api.OK {
		t.Errorf("P19.2: Tracks of MaxTracks tracks and MaxKids items: %v, %d", got, e)
	}
	if Least(0, tracks, items) != 1 || Most(0, tracks, items) != 1 {
		t.Errorf("P19.4: Least and Most of MaxTracks tracks and MaxKids items: %d, %d", Least(0, tracks, items), Most(0, tracks, items))
	}
}
