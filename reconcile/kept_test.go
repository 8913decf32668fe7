package reconcile

import (
	"math"
	"slices"
	"testing"
)

func TestKept(t *testing.T) {
	for _, x := range []struct {
		l    []int
		want []int
	}{
		{nil, nil},
		{[]int{7}, []int{0}},
		{[]int{1, 2, 3}, []int{0, 1, 2}},
		{[]int{3, 2, 1}, []int{0}},
		{[]int{1, 2, 0}, []int{0, 1}},
		{[]int{2, 0, 1}, []int{1, 2}},
		{[]int{1, 0, 3, 2}, []int{0, 2}},
		{[]int{2, 1, 3, 0, 4}, []int{0, 2, 4}},
		{[]int{5, 5, 5}, []int{0}},
		{[]int{1, 1, 2, 2}, []int{0, 2}},
		{[]int{4, 5, 1, 2, 3}, []int{2, 3, 4}},
		{[]int{4, 5, 1, 2}, []int{0, 1}},
		{[]int{1, 9, 2, 8, 3}, []int{0, 2, 3}},
		{[]int{3, 1, 2, 4}, []int{1, 2, 3}},
		{[]int{-3, 40, -2, 41, -1}, []int{0, 1, 3}},
		{[]int{-3, 40, -2, 39, -1}, []int{0, 2, 3}},
		{[]int{9, 1, 2, 7, 8, 3, 4}, []int{1, 2, 3, 4}},
		{[]int{0, math.MinInt, math.MaxInt, -1}, []int{0, 2}},
		{[]int{math.MaxInt, math.MinInt, math.MaxInt}, []int{1, 2}},
	} {
		if got := Kept(x.l); !slices.Equal(got, x.want) {
			t.Errorf("P15.1: Kept(%v) = %v, want %v", x.l, got, x.want)
		}
	}
}

func TestKeptLimit(t *testing.T) {
	var l, all []int
	for i := range 100 {
		l, all = append(l, 3*i), append(all, i)
	}
	if got := Kept(l); !slices.Equal(got, all) {
		t.Errorf("P15.1: Kept of 100 ascending numbers = %v", got)
	}
	if got := Kept(append(l, 1000)); len(got) > 0 {
		t.Errorf("P15.1: Kept of 101 numbers = %v", got)
	}
	if got := Kept(make([]int, 1<<20)); len(got) > 0 {
		t.Errorf("P15.1: Kept of very many numbers = %v", got)
	}
	slices.Reverse(l)
	if got := Kept(l); !slices.Equal(got, []int{0}) {
		t.Errorf("P15.1: Kept of 100 descending numbers = %v", got)
	}
}

// keptRead looks at all parts of a short list.
func keptRead(l []int) []int {
	var best []int
	for set := range 1 << len(l) {
		var part []int
		increases := true
		for i := range l {
			if set&(1<<i) != 0 {
				increases = increases && (len(part) == 0 || l[part[len(part)-1]] < l[i])
				part = append(part, i)
			}
		}
		if increases && (len(part) > len(best) || len(part) == len(best) && slices.Compare(part, best) < 0) {
			best = part
		}
	}
	return best
}

// TestKeptOfShortLists compares Kept with its reading for all lists of up to six numbers below six.
func TestKeptOfShortLists(t *testing.T) {
	lists := [][]int{nil}
	for len(lists) > 0 {
		l := lists[len(lists)-1]
		lists = lists[:len(lists)-1]
		before := slices.Clone(l)
		if got, want := Kept(l), keptRead(l); !slices.Equal(got, want) || !slices.Equal(l, before) {
			t.Fatalf("P15.1: Kept(%v) = %v, want %v", before, got, want)
		}
		for n := 0; n < 6 && len(l) < 6; n++ {
			lists = append(lists, append(slices.Clone(l), n))
		}
	}
}

// TestKeptByChance compares Kept with its reading for longer lists.
func TestKeptByChance(t *testing.T) {
	m := newMaker(1)
	for range 300 {
		l := make([]int, 7+m.IntN(6))
		for i := range l {
			l[i] = m.IntN(15)
		}
		if got, want := Kept(l), keptRead(l); !slices.Equal(got, want) {
			t.Fatalf("P15.1: Kept(%v) = %v, want %v", l, got, want)
		}
	}
}
