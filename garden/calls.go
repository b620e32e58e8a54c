package garden

import (
	"slices"
	"strconv"

	"burgeon/api"
	"burgeon/arena"
)

// Empty tells whether an arena is the zero value.
func Empty(a api.Arena) bool { return len(a.Nodes) == 0 && len(a.Free) == 0 }

// Clone is an arena of new memory.
func Clone(a api.Arena) api.Arena {
	return api.Arena{Nodes: slices.Clone(a.Nodes), Free: slices.Clone(a.Free)}
}

// Same holds arenas against each other.
func Same(a, b api.Arena) bool {
	return slices.Equal(a.Nodes, b.Nodes) && slices.Equal(a.Free, b.Free)
}

// Alike tells whether the nodes that are reached from two references are alike, but for their places and generations.
func Alike(a api.Arena, r api.Ref, b api.Arena, s api.Ref) bool {
	n, missing := arena.Get(a, r)
	m, missingToo := arena.Get(b, s)
	if missing != api.OK || missingToo != api.OK {
		return r == 0 && s == 0
	}
	for i := range n.Kids {
		if !Alike(a, n.Kids[i], b, m.Kids[i]) {
			return false
		}
	}
	n.Gen, n.Kids = m.Gen, m.Kids
	return n == m
}

// Grown tells whether an arena is what calls make of another one, that may be: of the last free places of it there are nodes now, and all else is as it was. And how many nodes were made.
func Grown(before, a api.Arena) (made int, is bool) {
	made = len(before.Free) - len(a.Free)
	if !arena.Right(a) || len(a.Nodes) != len(before.Nodes) || made < 0 || !slices.Equal(a.Free, before.Free[:len(a.Free)]) {
		return made, false
	}
	for i, n := range before.Nodes {
		if n.Kind != 0 && a.Nodes[i] != n || a.Nodes[i].Gen != n.Gen {
			return made, false
		}
	}
	return made, true
}

// Tidied is an arena in which all nodes are dropped that are not reached from references.
func Tidied(a api.Arena, refs ...api.Ref) api.Arena {
	met, _ := arena.Reach(a, refs...)
	var gone []int
	for place, n := range a.Nodes {
		if n.Kind != 0 && !slices.Contains(met, place) {
			gone = append(gone, place)
		}
	}
	a, _ = arena.Drop(a, gone...)
	return a
}

// Shared tells what calls share with the arena that they are handed, which they must not: they write in its lists, or behind these, or what they answer is not new memory. Nothing, if they share nothing. Calls are handed a container of those that are planted, and tell the arenas that they were answered.
func Shared(plant func() (api.Arena, api.Ref), calls func(a api.Arena, r api.Ref) []api.Arena) string {
	ground, r := plant()
	a, want := roomy(ground), calls(Clone(ground), r)
	l := calls(a, r)
	if !Same(withRoom(a), withRoom(roomy(ground))) {
		return "the arena that was handed in is changed"
	}
	spoil(a)
	for i := range l {
		if !Same(l[i], want[i]) {
			return "answer " + strconv.Itoa(i) + " is changed with the arena that was handed in"
		}
	}
	spoilt := Clone(withRoom(a))
	for _, answer := range l {
		if len(answer.Nodes) > 0 {
			answer.Nodes[0] = api.Node{}
		}
		if len(answer.Free) > 0 {
			answer.Free[0] = 98
		}
		_, _ = append(answer.Nodes, api.Node{}), append(answer.Free, 98)
	}
	if !Same(withRoom(a), spoilt) {
		return "the arena that was handed in is changed with an answer"
	}
	return ""
}

// room is how much lies behind the lists of a roomy arena.
const room = 3

// roomy is an arena of new memory, whose lists have room behind them, which is filled.
func roomy(a api.Arena) api.Arena {
	nodes := slices.Concat(a.Nodes, slices.Repeat([]api.Node{Stone()}, room))
	free := slices.Concat(a.Free, slices.Repeat([]int{900}, room))
	return api.Arena{Nodes: nodes[:len(a.Nodes)], Free: free[:len(a.Free)]}
}

// withRoom is a roomy arena, whose lists have the room behind them, too.
func withRoom(a api.Arena) api.Arena {
	return api.Arena{Nodes: a.Nodes[:len(a.Nodes)+room], Free: a.Free[:len(a.Free)+room]}
}

// spoil writes something else in the lists of an arena.
func spoil(a api.Arena) {
	for i := range a.Nodes {
		a.Nodes[i] = Stone()
	}
	for i := range a.Free {
		a.Free[i] = 99
	}
}
