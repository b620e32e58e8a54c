package garden

import (
	"math"
	"slices"

	"burgeon/api"
	"burgeon/arena"
	"burgeon/dice"
	"burgeon/mix"
)

// Wrong is an arena with a reference that is not a container's of some kind, or one that may not be, and what is wrong.
type Wrong struct {
	What  string
	Arena api.Arena
	Ref   api.Ref
}

// NoMaps are all of them that come of a map of 12 keys, and those of too many keys.
func NoMaps() []Wrong {
	a, r := Of(From(1, 12, 1), 30)
	third := change{"a third kid", func(n *api.Node, a api.Arena, _ int) { n.Kids[2] = LeafOf(a) }}
	all := changed(a, r, append(changes(), third), IsMap)
	return slices.Concat(lame(a, r), noNodes(a, r), all, dropped(a, r), many(), rounds(), []Wrong{kidsTwice()})
}

// lame are arenas that may not be, with what was a container's reference, with that of an empty one, and with others.
func lame(a api.Arena, r api.Ref) []Wrong {
	var l []Wrong
	add := func(what string, change func(b *api.Arena, free, stone *api.Node)) {
		b := Clone(a)
		change(&b, &b.Nodes[b.Free[3]], &b.Nodes[PlaceIn(StoneOf(b))])
		for _, ref := range []api.Ref{0, r, LeafOf(a), At(511, 0), 513, math.MaxUint64} {
			l = append(l, Wrong{what, b, ref})
		}
	}
	add("no nodes", func(b *api.Arena, _, _ *api.Node) { *b = api.Arena{} })
	add("no nodes, a free place", func(b *api.Arena, _, _ *api.Node) { *b = api.Arena{Free: []int{0}} })
	add("513 nodes", func(b *api.Arena, _, _ *api.Node) {
		b.Nodes = append(b.Nodes, slices.Repeat([]api.Node{Stone()}, 513-len(b.Nodes))...)
	})
	add("a place is lacking", func(b *api.Arena, _, _ *api.Node) { b.Free = b.Free[1:] })
	add("no place is free", func(b *api.Arena, _, _ *api.Node) { b.Free = nil })
	add("a place twice", func(b *api.Arena, _, _ *api.Node) { b.Free = append(b.Free, b.Free[0]) })
	add("a place of a node", func(b *api.Arena, _, _ *api.Node) { b.Free = append(b.Free, PlaceIn(LeafOf(a))) })
	add("a place behind the last one", func(b *api.Arena, _, _ *api.Node) { b.Free = append(b.Free, len(b.Nodes)) })
	add("a place below 0", func(b *api.Arena, _, _ *api.Node) { b.Free = append(b.Free, -1) })
	add("a free node has something", func(_ *api.Arena, free, _ *api.Node) { free.S = 1 })
	add("a free node's generation", func(_ *api.Arena, free, _ *api.Node) { free.Gen = -1 })
	add("a generation that is too great", func(_ *api.Arena, free, _ *api.Node) { free.Gen = 1<<20 + 1 })
	add("a stone's Pre", func(_ *api.Arena, _, stone *api.Node) { stone.Pre = 10 })
	add("a stone's Suf", func(_ *api.Arena, _, stone *api.Node) { stone.Suf = -1 })
	add("a stone's Kid", func(_ *api.Arena, _, stone *api.Node) { stone.Kids[8] = 513 })
	return l
}

// noNodes are references that have no node of a container: the stone's and a free node's, those of other generations of a container's place and of places that the arena does not have, and numbers that are no references.
func noNodes(a api.Arena, r api.Ref) []Wrong {
	place := PlaceIn(r)
	gen := a.Nodes[place].Gen
	var l []Wrong
	for _, ref := range []api.Ref{
		StoneOf(a), At(a.Free[0], a.Nodes[a.Free[0]].Gen),
		At(place, gen+1), At(place, gen-1), At(place, 0), At(place, 1<<20), At(place, gen) + 1<<37,
		At(len(a.Nodes), 0), At(len(a.Nodes), gen), At(511, 0), At(511, 1<<20),
		513, 65535, 65536, At(512, gen), At(place, 1<<20+1), 1 << 63, math.MaxUint64,
	} {
		l = append(l, Wrong{"a reference without a node of a container", a, ref})
	}
	return l
}

// change is a thing that may be wrong in a container's node of an arena, at a place; of some nodes it makes a container again.
type change struct {
	what string
	do   func(n *api.Node, a api.Arena, place int)
}

// changes are such things of the nodes of all kinds of containers.
func changes() []change {
	return []change{
		{"a node of another kind", func(n *api.Node, _ api.Arena, _ int) { n.Kind = api.KHeap }},
		{"a size that is too great", func(n *api.Node, _ api.Arena, _ int) { n.S++ }},
		{"a size that is too small", func(n *api.Node, _ api.Arena, _ int) { n.S-- }},
		{"a size far off", func(n *api.Node, _ api.Arena, _ int) { n.S += 1 << 32 }},
		{"a Pre", func(n *api.Node, _ api.Arena, _ int) { n.Pre = 1 }},
		{"a Suf", func(n *api.Node, _ api.Arena, _ int) { n.Suf = 1 }},
		{"a last kid without a node", func(n *api.Node, _ api.Arena, _ int) { n.Kids[8] = At(511, 0) }},
		{"itself as a kid", func(n *api.Node, _ api.Arena, place int) { n.Kids[0] = At(place, n.Gen) }},
		{"itself as the other kid", func(n *api.Node, _ api.Arena, place int) { n.Kids[1] = At(place, n.Gen) }},
		{"a kid without a node", func(n *api.Node, _ api.Arena, _ int) { n.Kids[0] = At(511, 0) }},
		{"a kid that is none of a container", func(n *api.Node, a api.Arena, _ int) { n.Kids[1] = StoneOf(a) }},
		{"another generation", func(n *api.Node, _ api.Arena, _ int) { n.Gen ^= 1 }},
		{"a key below all", func(n *api.Node, _ api.Arena, _ int) { n.N = Low }},
		{"a key above all", func(n *api.Node, _ api.Arena, _ int) { n.N = Top }},
		{"kids, the other way round", func(n *api.Node, _ api.Arena, _ int) { n.Kids[0], n.Kids[1] = n.Kids[1], n.Kids[0] }},
		{"a kid of another generation", func(n *api.Node, _ api.Arena, _ int) { n.Kids[0] ^= 1 << 16 }},
		{"one kid less", func(n *api.Node, _ api.Arena, _ int) { n.Kids[1] = 0 }},
		{"a node that is free, and not listed so", func(n *api.Node, _ api.Arena, _ int) { *n = api.Node{Gen: n.Gen} }},
		{"a kid twice, and its size so", func(n *api.Node, _ api.Arena, _ int) { n.Kids[1], n.S = n.Kids[0], 2*n.S }},
	}
}

// changed are containers of which one node is changed, and that are none any more.
func changed(a api.Arena, r api.Ref, by []change, is func(a api.Arena, r api.Ref) bool) []Wrong {
	var l []Wrong
	for _, c := range by {
		for _, place := range grown(a) {
			b := Clone(a)
			c.do(&b.Nodes[place], a, place)
			if !arena.Right(b) || !is(b, r) {
				l = append(l, Wrong{c.what, b, r})
			}
		}
	}
	return l
}

// dropped are containers of which one node is dropped, or is dropped and made again: the place is that node's, and the reference is not.
func dropped(a api.Arena, r api.Ref) []Wrong {
	var l []Wrong
	for _, place := range grown(a) {
		n := a.Nodes[place]
		b, _ := arena.Drop(a, place)
		again, _, _ := arena.Make(b, n)
		l = append(l, Wrong{"a node is dropped", b, r}, Wrong{"a node is dropped and made again", again, r})
	}
	return l
}

// many are maps but for that they have more than 200 keys.
func many() []Wrong {
	var l []Wrong
	for _, n := range []int64{201, 202, 256, 300, 511} {
		a, r := Of(From(1, n, 1), min(60, 511-int(n)))
		l = append(l, Wrong{"more than 200 keys", a, r})
	}
	return l
}

// rounds are nodes that come back to themselves.
func rounds() []Wrong {
	var l []Wrong
	for side := range 2 {
		a := Ground(20)
		var refs []api.Ref
		for i, item := range Row(3, Rising) {
			refs = append(refs, Write(&a, api.Node{Kind: api.KTreap, N: item.K, S: int64(3 - i)}))
		}
		for i, r := range refs {
			a.Nodes[PlaceIn(r)].Kids[side] = refs[(i+1)%3]
		}
		for _, r := range refs {
			l = append(l, Wrong{"a round", a, r})
		}
	}
	return l
}

// kidsTwice is a row of nodes, each of which has the next one twice: there are far more ways down than nodes.
func kidsTwice() Wrong {
	items := From(1, 150, 1)
	slices.SortFunc(items, func(a, b api.Item) int {
		if mix.Before(a.K, b.K) {
			return -1
		}
		return 1
	})
	a := Ground(160)
	r, size := api.Ref(0), int64(0)
	for _, item := range slices.Backward(items) {
		size = 1 + 2*size
		r = Write(&a, api.Node{Kind: api.KTreap, N: item.K, S: size, Kids: [9]api.Ref{r, r}})
	}
	return Wrong{"a row of kids twice", a, r}
}

// Spoiled is an arena with one node changed, as if at random.
func Spoiled(d *dice.Dice, a api.Arena) api.Arena {
	a = Clone(a)
	n := &a.Nodes[d.UpTo(len(a.Nodes))]
	other := d.UpTo(len(a.Nodes))
	switch d.UpTo(6) {
	case 0:
		n.N += int64(d.UpTo(7)) - 3
	case 1:
		n.V = int64(d.UpTo(1000))
	case 2:
		n.S += int64(d.UpTo(5)) - 2
	case 3:
		n.Kids[d.UpTo(2)] = At(other, a.Nodes[other].Gen)
	case 4:
		n.Kids[0], n.Kids[1] = n.Kids[1], n.Kids[0]
	case 5:
		n.Kids[d.UpTo(9)] = 0
	}
	return a
}
