package reconcile

import "widgetry/api"

// identity tells siblings apart: without a key, number counts the earlier ones of the kind that have none either.
type identity struct {
	kind   int
	key    string
	number int
}

// identities returns the identities of siblings, whose kinds and keys are returned by look.
func identities[T any](siblings []T, look func(T) (kind int, key string)) []identity {
	l := make([]identity, len(siblings))
	earlier := map[int]int{}
	for i, s := range siblings {
		kind, key := look(s)
		l[i] = identity{kind: kind, key: key}
		if key == "" {
			l[i].number = earlier[kind]
			earlier[kind]++
		}
	}
	return l
}

func lookAtNode(n api.Node) (int, string) { return n.Kind, n.Key }

func lookAtView(v api.View) (int, string) { return v.Kind, v.Key }

// match returns for each view the position of the node that it matches, or -1.
func match(nodes []api.Node, views []api.View) []int {
	places := map[identity]int{}
	for i, id := range identities(nodes, lookAtNode) {
		places[id] = i
	}
	l := make([]int, len(views))
	for i, id := range identities(views, lookAtView) {
		l[i] = -1
		if at, ok := places[id]; ok {
			l[i] = at
		}
	}
	return l
}

// increasing returns for each index the length of a longest strictly increasing part that begins there.
func increasing(l []int) []int {
	lengths := make([]int, len(l))
	for i := len(l) - 1; i >= 0; i-- {
		lengths[i] = 1
		for j := i + 1; j < len(l); j++ {
			if l[j] > l[i] {
				lengths[i] = max(lengths[i], lengths[j]+1)
			}
		}
	}
	return lengths
}

// staying reports for each view whether its node stays where it is. The list contains the positions of the nodes, or -1.
func staying(positions []int) []bool {
	var old, matched []int
	for i, at := range positions {
		if at >= 0 {
			old, matched = append(old, at), append(matched, i)
		}
	}
	l := make([]bool, len(positions))
	for _, i := range Kept(old) {
		l[matched[i]] = true
	}
	return l
}
