// Package garden has arenas for the tests of the other packages, and ordered maps and tables in them: written node by node, without the calls that are tested.
package garden

import (
	"slices"

	"burgeon/api"
	"burgeon/arena"
	"burgeon/dice"
	"burgeon/mix"
)

// At is the reference of a place and a generation.
func At(place, gen int) api.Ref { return api.Ref(gen)<<16 + api.Ref(place) + 1 }

// PlaceIn is the place of a reference.
func PlaceIn(r api.Ref) int { return int(r%65536) - 1 }

// Ground is an arena of n free nodes, in no order, which were used before.
func Ground(n int) api.Arena {
	a := api.Arena{Nodes: make([]api.Node, n)}
	d := dice.From(uint64(n))
	for i := range n {
		a.Nodes[i].Gen = d.UpTo(1 << 20)
		a.Free = slices.Insert(a.Free, d.UpTo(i+1), i)
	}
	return a
}

// Write writes a node into an arena, and is its reference.
func Write(a *api.Arena, n api.Node) api.Ref {
	last := len(a.Free) - 1
	place := a.Free[last]
	a.Free = a.Free[:last]
	n.Gen = a.Nodes[place].Gen
	a.Nodes[place] = n
	return At(place, n.Gen)
}

// Plant writes a map into an arena, in its one shape: the key that is Before all others is its top.
func Plant(a *api.Arena, l []api.Item) api.Ref {
	if len(l) == 0 {
		return 0
	}
	top := 0
	for i := range l {
		if mix.Before(l[i].K, l[top].K) {
			top = i
		}
	}
	low, high := Plant(a, l[:top]), Plant(a, l[top+1:])
	return Write(a, api.Node{Kind: api.KTreap, N: l[top].K, V: l[top].V, S: int64(len(l)), Kids: [9]api.Ref{low, high}})
}

// Stone is a node of nothing.
func Stone() api.Node { return api.Node{Kind: 7, N: 5, V: 6, S: 1, Pre: 8, Suf: 9} }

// Of is an arena with a map of items, a stone, and so many free nodes.
func Of(l []api.Item, free int) (api.Arena, api.Ref) {
	a := Ground(len(l) + 1 + free)
	Write(&a, Stone())
	r := Plant(&a, l)
	return a, r
}

// StoneOf is the reference of the stone.
func StoneOf(a api.Arena) api.Ref {
	return refOf(a, func(n api.Node) bool { return n.Kind == Stone().Kind })
}

// LeafOf is the reference of a container's node without kids.
func LeafOf(a api.Arena) api.Ref {
	return refOf(a, func(n api.Node) bool { return isGrown(n) && n.Kids == [9]api.Ref{} })
}

// isGrown tells whether a node is a container's.
func isGrown(n api.Node) bool { return n.Kind != 0 && n.Kind != Stone().Kind }

// grown are the places of the nodes of containers.
func grown(a api.Arena) []int {
	var places []int
	for place, n := range a.Nodes {
		if isGrown(n) {
			places = append(places, place)
		}
	}
	return places
}

// refOf is the reference of the first node that is meant.
func refOf(a api.Arena, meant func(n api.Node) bool) api.Ref {
	i := slices.IndexFunc(a.Nodes, meant)
	return At(i, a.Nodes[i].Gen)
}

// Held are the items of a map, read node by node.
func Held(a api.Arena, r api.Ref) []api.Item {
	n, err := arena.Get(a, r)
	if err != api.OK {
		return nil
	}
	return slices.Concat(Held(a, n.Kids[0]), []api.Item{{K: n.N, V: n.V}}, Held(a, n.Kids[1]))
}

// IsMap tells whether a reference is a map's, word by word as the chapter of maps says it.
func IsMap(a api.Arena, r api.Ref) bool {
	_, is := keysIn(a, r, 1)
	return is
}

// keysIn are a map's keys, and whether the reference is a map's; a way of over 512 nodes comes back to one of them.
func keysIn(a api.Arena, r api.Ref, way int) ([]int64, bool) {
	if r == 0 {
		return nil, true
	}
	n, err := arena.Get(a, r)
	if err != api.OK || way > 512 || n.Kind != api.KTreap || n.Pre != 0 || n.Suf != 0 || slices.Max(n.Kids[2:]) != 0 {
		return nil, false
	}
	low, lowIs := keysIn(a, n.Kids[0], way+1)
	if !lowIs {
		return nil, false
	}
	high, highIs := keysIn(a, n.Kids[1], way+1)
	if !highIs || n.S != int64(len(low)+1+len(high)) || n.S > 200 {
		return nil, false
	}
	isLow := func(key int64) bool { return key < n.N && mix.Before(n.N, key) }
	isHigh := func(key int64) bool { return key > n.N && mix.Before(n.N, key) }
	if !all(low, isLow) || !all(high, isHigh) {
		return nil, false
	}
	return slices.Concat(low, []int64{n.N}, high), true
}

// all tells whether all keys are such ones.
func all(keys []int64, are func(key int64) bool) bool {
	return !slices.ContainsFunc(keys, func(key int64) bool { return !are(key) })
}
