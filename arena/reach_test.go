package arena_test

import (
	"math"
	"slices"
	"testing"

	"burgeon/api"
	"burgeon/arena"
)

// linked is an arena of as many nodes as lists, of generation 5, each with references to the nodes of its list; none is free.
func linked(lists ...[]int) api.Arena {
	var a api.Arena
	for _, l := range lists {
		n := api.Node{Kind: 1, Gen: 5}
		for i, place := range l {
			n.Kids[i] = at(place, 5)
		}
		a.Nodes = append(a.Nodes, n)
	}
	return a
}

func TestReach(t *testing.T) {
	tree := linked([]int{1, 2}, []int{3, 4}, []int{5, 6}, nil, nil, nil, nil)
	for _, c := range []struct {
		name  string
		a     api.Arena
		roots []api.Ref
		want  []int
	}{
		{"no root", tree, nil, nil},
		{"an empty list of roots", tree, []api.Ref{}, nil},
		{"0", tree, []api.Ref{0}, nil},
		{"a tree", tree, []api.Ref{at(0, 5)}, []int{0, 1, 3, 4, 2, 5, 6}},
		{"a part of a tree", tree, []api.Ref{at(2, 5)}, []int{2, 5, 6}},
		{"a leaf", tree, []api.Ref{at(4, 5)}, []int{4}},
		{"a root twice", tree, []api.Ref{at(1, 5), at(1, 5)}, []int{1, 3, 4}},
		{"two roots", tree, []api.Ref{at(2, 5), at(1, 5)}, []int{2, 5, 6, 1, 3, 4}},
		{"a root that is reached from the one ahead", tree, []api.Ref{at(1, 5), at(4, 5)}, []int{1, 3, 4}},
		{"a root that reaches the one ahead", tree, []api.Ref{at(4, 5), at(0, 5)}, []int{4, 0, 1, 3, 2, 5, 6}},
		{"stale roots", tree, []api.Ref{at(0, 4), at(1, 6), at(6, 0)}, nil},
		{"a stale root and another one", tree, []api.Ref{at(0, 4), 0, at(5, 5)}, []int{5}},
		{"a stale root of a place that is met", tree, []api.Ref{at(1, 5), at(1, 4)}, []int{1, 3, 4}},
		{"places that are none", tree, []api.Ref{at(7, 5), at(511, 5), at(512, 5)}, nil},
		{"references that may not be", tree, []api.Ref{513, 65536, math.MaxUint64, at(3, 5), 1 << 63}, []int{3}},
		{"a node of itself", linked([]int{0}), []api.Ref{at(0, 5)}, []int{0}},
		{"a round of two", linked([]int{1}, []int{0}), []api.Ref{at(0, 5)}, []int{0, 1}},
		{"a round of two, from the other one", linked([]int{1}, []int{0}), []api.Ref{at(1, 5), at(0, 5)}, []int{1, 0}},
		{"a round of three", linked([]int{1}, []int{2}, []int{0}), []api.Ref{at(2, 5)}, []int{2, 0, 1}},
		{"each reaches each", linked([]int{0, 1, 2}, []int{2, 1, 0}, []int{1, 0, 2}), []api.Ref{at(0, 5)}, []int{0, 1, 2}},
		{"a node of two", linked([]int{1, 2}, []int{3}, []int{3}, nil), []api.Ref{at(0, 5)}, []int{0, 1, 3, 2}},
		{"a node that is reached sooner by a longer way", linked([]int{1, 3}, []int{2}, []int{3}, nil), []api.Ref{at(0, 5)}, []int{0, 1, 2, 3}},
		{"nine kids", linked([]int{9, 8, 7, 6, 5, 4, 3, 2, 1}, nil, nil, nil, nil, nil, nil, nil, nil, nil), []api.Ref{at(0, 5)}, []int{0, 9, 8, 7, 6, 5, 4, 3, 2, 1}},
		{"one kid twice", linked([]int{1, 1, 2, 1}, nil, nil), []api.Ref{at(0, 5)}, []int{0, 1, 2}},
	} {
		if l, err := arena.Reach(c.a, c.roots...); err != api.OK || !slices.Equal(l, c.want) {
			t.Errorf("%s: Reach %v: %v, %d", c.name, c.roots, l, err)
		}
	}
}

// Kids that are stale, free, or of no place of the arena are passed over, and those behind them are not.
func TestReachPassesOver(t *testing.T) {
	a := linked(nil, []int{3}, nil, nil, nil)
	a.Nodes[2] = api.Node{Gen: 5}
	a.Free = []int{2}
	a.Nodes[0].Kids = kids(at(1, 4), at(2, 5), at(511, 5), at(5, 5), 0, at(3, 6), at(1, 5), at(0, 5), at(4, 5))
	if l, err := arena.Reach(a, at(2, 5), at(0, 5)); err != api.OK || !slices.Equal(l, []int{0, 1, 3, 4}) {
		t.Errorf("Reach: %v, %d", l, err)
	}
}

// A row of 512 nodes, each of which is the first, or the last, kid of the one ahead.
func TestReachOfALongRow(t *testing.T) {
	for _, kid := range []int{0, 8} {
		var a api.Arena
		var want []int
		for i := range 512 {
			n := api.Node{Kind: -1, Gen: topGen}
			n.Kids[kid] = at((i+1)%512, topGen)
			a.Nodes = append(a.Nodes, n)
			want = append(want, i)
		}
		if l, err := arena.Reach(a, at(0, topGen)); err != api.OK || !slices.Equal(l, want) {
			t.Errorf("Reach: %v, %d", l, err)
		}
		back := slices.Clone(want[:511])
		if l, err := arena.Reach(a, at(511, topGen)); err != api.OK || !slices.Equal(l, append([]int{511}, back...)) {
			t.Errorf("Reach of the last one: %v, %d", l, err)
		}
	}
}

// Many roots, and each node reaches nine others.
func TestReachOfMany(t *testing.T) {
	var lists [][]int
	for i := range 512 {
		var l []int
		for k := range 9 {
			l = append(l, (i*9+k+1)%512)
		}
		lists = append(lists, l)
	}
	a := linked(lists...)
	roots := slices.Repeat([]api.Ref{0, at(511, 5), at(3, 5), at(3, 4)}, 1000)
	l, err := arena.Reach(a, roots...)
	if err != api.OK || len(l) != 512 || l[0] != 511 || l[1] != (511*9+1)%512 {
		t.Fatalf("Reach: %v, %d", l, err)
	}
	slices.Sort(l)
	for i, place := range l {
		if i != place {
			t.Fatalf("Reach: %d at %d", place, i)
		}
	}
}
