package garden

import (
	"slices"

	"burgeon/api"
)

// NoTables are arenas with references that are no table's: all that come of a table of 14 keys, of which five have one hash, and those that are written node by node.
func NoTables() []Wrong {
	l := Items(slices.Concat([]int64{1, 2, 3, 4, 6, 7, 8, 9, Sharing(5, 7)}, OneHash()[3:8])...)
	a, r := TableOf(l, 40)
	all := changed(a, r, append(changes(), tableChanges()...), IsTable)
	return slices.Concat(
		lame(a, r), noNodes(a, r), all, dropped(a, r), cutOff(a), elsewhere(l),
		alone(), few(), early(), unlike(), tooMany(), crowded(), tableRounds(),
	)
}

// tableChanges are things that may be wrong in a table's node alone.
func tableChanges() []change {
	l := []change{
		{"kids that are moved on by one", func(n *api.Node, _ api.Arena, _ int) {
			n.Kids = [9]api.Ref{n.Kids[3], n.Kids[0], n.Kids[1], n.Kids[2]}
		}},
		{"kids that are moved behind the digits", func(n *api.Node, _ api.Arena, _ int) {
			n.Kids = [9]api.Ref{4: n.Kids[0], 5: n.Kids[1], 6: n.Kids[2], 7: n.Kids[3], 8: n.Kids[4]}
		}},
		{"another key", func(n *api.Node, _ api.Arena, _ int) { n.N++ }},
		{"another key that is there, too", func(n *api.Node, _ api.Arena, _ int) { n.N = 3 }},
		{"a key of the other keys' hash", func(n *api.Node, _ api.Arena, _ int) { n.N = OneHash()[1] }},
		{"a value", func(n *api.Node, _ api.Arena, _ int) { n.V++ }},
		{"a kid again", func(n *api.Node, _ api.Arena, _ int) { n.Kids[2] = n.Kids[1] }},
	}
	for kid := range api.Kids {
		l = append(l,
			change{"a kid that has a leaf", func(n *api.Node, a api.Arena, _ int) { n.Kids[kid] = LeafOf(a) }},
			change{"a kid that is stale", func(n *api.Node, _ api.Arena, _ int) { n.Kids[kid] = At(400, 7) }},
		)
	}
	for _, kind := range []int{api.KTreap, api.KTrie, api.KLeaf, api.KClash, api.KRow, 100, -1} {
		l = append(l, change{"a node of some other kind", func(n *api.Node, _ api.Arena, _ int) { n.Kind = kind }})
	}
	for _, size := range []int64{0, 1, 2, 9, 10, 200, 201, Low, Top} {
		l = append(l, change{"some other size", func(n *api.Node, _ api.Arena, _ int) { n.S = size }})
	}
	return l
}

// cutOff are nodes of a table that are, alone, none at level 0.
func cutOff(a api.Arena) []Wrong {
	var l []Wrong
	for _, place := range grown(a) {
		if r := At(place, a.Nodes[place].Gen); !IsTable(a, r) {
			l = append(l, Wrong{"a table that is cut off", a, r})
		}
	}
	return l
}

// elsewhere are tables that are not written from level 0 on, and a map.
func elsewhere(l []api.Item) []Wrong {
	var out []Wrong
	for from := 1; from < Levels; from++ {
		a := Ground(100)
		out = append(out, found("a table from another level on", plantFrom(&a, l, from), &a))
	}
	a := Ground(100)
	out = append(out, found("a table beneath level 0", over(&a, PlantTable(&a, l), 5, 1, len(l)), &a))
	for _, l := range [][]api.Item{Items(5), l} {
		a := Ground(100)
		out = append(out, found("a map", Plant(&a, l), &a))
	}
	return out
}

// found is what was written into an arena, and is wrong; the arena is as it is when the reference is known.
func found(what string, r api.Ref, in *api.Arena) Wrong { return Wrong{what, Clone(*in), r} }

// over writes nodes of KTrie above a table of so many keys, all of whose digits are a key's: one for each level above its own.
func over(a *api.Arena, r api.Ref, key int64, level, size int) api.Ref {
	for level > 0 {
		level--
		r = beneath(a, key, level, r, size)
	}
	return r
}

// beneath writes the node of KTrie, at a level, that has one table beneath it, by a key's digit.
func beneath(a *api.Arena, key int64, level int, r api.Ref, size int) api.Ref {
	n := branch(api.KTrie, size)
	n.Kids[Digit(key, level)] = r
	return Write(a, n)
}

// alone are nodes of KTrie with one key alone: above its leaf, and beside others.
func alone() []Wrong {
	var l []Wrong
	for level := 1; level <= Levels+1; level++ {
		a := Ground(60)
		l = append(l, found("a trie of one key", over(&a, Write(&a, leaf(api.Item{K: 5})), 5, level, 1), &a))
		if level > 8 {
			continue
		}
		b, r := TableOf(Items(5, Sharing(5, level-1)), 60)
		for _, place := range grown(b) {
			if b.Nodes[place].N != 5 {
				continue
			}
			// The leaf that is there goes one level down, as the one key of a new trie.
			n := branch(api.KTrie, 1)
			n.Gen, n.Kids[Digit(5, level)] = b.Nodes[place].Gen, Write(&b, b.Nodes[place])
			b.Nodes[place] = n
			l = append(l, Wrong{"a trie of one key beside another one", b, r})
		}
	}
	return l
}

// few are nodes of no key, and of KClash with one key alone.
func few() []Wrong {
	var l []Wrong
	for _, kind := range []int{api.KTrie, api.KClash} {
		for level := range Levels + 1 {
			a := Ground(30)
			l = append(l, found("a node of no key", over(&a, Write(&a, branch(kind, 0)), 5, level, 0), &a))
			b := Ground(30)
			l = append(l, found("a node of no key, with another size", over(&b, Write(&b, branch(kind, 2)), 5, level, 2), &b))
		}
	}
	for size := range 3 {
		a := Ground(30)
		clash := Write(&a, branch(api.KClash, size, leaves(&a, Items(5))...))
		l = append(l, found("a clash of one key", over(&a, clash, 5, Levels, size), &a))
	}
	for digits := range Levels {
		other := Sharing(5, digits)
		a := Ground(60)
		clash := Write(&a, branch(api.KClash, 1, leaves(&a, Items(5))...))
		for level := Levels - 1; level > digits; level-- {
			clash = beneath(&a, 5, level, clash, 1)
		}
		n := branch(api.KTrie, 2)
		n.Kids[Digit(5, digits)], n.Kids[Digit(other, digits)] = clash, leaves(&a, Items(other))[0]
		l = append(l, found("a clash of one key beside another one", over(&a, Write(&a, n), 5, digits, 2), &a))
	}
	return l
}

// early are nodes of KClash with leaves of one hash at a level less than 10, and at one more; and a node of KTrie at level 10.
func early() []Wrong {
	var l []Wrong
	for level := range Levels + 2 {
		if level == Levels {
			continue
		}
		a := Ground(60)
		clash := Write(&a, branch(api.KClash, 3, leaves(&a, Items(OneHash()[3:6]...))...))
		l = append(l, found("a clash at another level", over(&a, clash, 5, level, 3), &a))
	}
	a := Ground(60)
	last := Write(&a, branch(api.KTrie, 2, leaves(&a, Items(OneHash()[3:5]...))...))
	return append(l, found("a trie at level 10", over(&a, last, 5, Levels, 2), &a))
}

// clashOf is a node of KClash at level 10, with leaves, some other kids behind them, and a size.
func clashOf(what string, size int, keys []int64, more ...api.Ref) Wrong {
	a := Ground(60)
	var refs []api.Ref
	for _, key := range keys {
		refs = append(refs, Write(&a, leaf(api.Item{K: key, V: 7})))
	}
	clash := Write(&a, branch(api.KClash, size, append(refs, more...)...))
	return found(what, over(&a, clash, OneHash()[5], Levels, size), &a)
}

// unlike are nodes of KClash with leaves of several hashes, or out of order.
func unlike() []Wrong {
	var l []Wrong
	keys := OneHash()
	for _, others := range [][]int64{{6, 7}, {5, 6}, {4, 5}, {5, 1 << 29}, {-1 << 30, 5}, TopHash()[2:5]} {
		l = append(l, clashOf("a clash of several hashes", len(others), others))
	}
	for digits := range Levels {
		l = append(l, clashOf("a clash of several hashes", 2, []int64{5, Sharing(5, digits)}))
	}
	for _, row := range [][]int64{
		{keys[1], keys[0]}, {keys[0], keys[0]}, {keys[0], keys[2], keys[1]}, {keys[1], keys[0], keys[2]}, {keys[0], keys[1], keys[1]},
		append(slices.Clone(keys[1:9]), keys[0]), append(slices.Clone(keys[:8]), keys[7]), append(slices.Clone(keys[2:4]), keys[0], keys[1]),
	} {
		l = append(l, clashOf("a clash out of order", len(row), row))
	}
	return append(l, clashOf("a clash with another size", 4, keys[:3]), clashOf("a clash with another size", 2, keys[:3]), clashOf("a clash with a gap", 3, keys[:3], 0, At(0, 0)))
}

// tooMany are nodes of KClash of which the size tells more than 9, or that have others beneath them.
func tooMany() []Wrong {
	keys := OneHash()
	l := []Wrong{clashOf("a clash of more than 9", 10, keys[:9]), clashOf("a clash of more than 9", 12, keys[:9]), clashOf("a clash of more than 9", 1<<40, keys[:9])}
	for _, at := range []int{0, 8} {
		a := Ground(60)
		inner := Write(&a, branch(api.KClash, 2, leaves(&a, Items(keys[at:at+2]...))...))
		kids := leaves(&a, Items(slices.Concat(keys[:at], keys[at+2:10])...))
		clash := Write(&a, branch(api.KClash, 10, slices.Insert(kids, at, inner)...))
		l = append(l, found("a clash beneath a clash", over(&a, clash, 5, Levels, 10), &a))
	}
	for _, kind := range []int{api.KClash, api.KTrie} {
		for _, at := range []int{0, 6} {
			a := Ground(60)
			inner := Write(&a, branch(kind, 2, leaves(&a, Items(keys[at+1:at+3]...))...))
			clash := Write(&a, branch(api.KClash, 3, Write(&a, leaf(api.Item{K: keys[at]})), inner))
			l = append(l, found("a clash beneath a clash", over(&a, clash, 5, Levels, 3), &a))
		}
	}
	return l
}

// crowded are tables but for that they have more than 200 keys, and such ones whose size tells 200.
func crowded() []Wrong {
	var l []Wrong
	for _, content := range [][]api.Item{From(1, 201, 1), From(1, 202, 1), From(-100, 155, 1), With(Crowd(), 1, 1)} {
		a, r := TableOf(content, 20)
		l = append(l, Wrong{"more than 200 keys in a table", a, r})
		b := Clone(a)
		b.Nodes[PlaceIn(r)].S = api.MaxItems
		l = append(l, Wrong{"more than 200 keys, and another size", b, r})
	}
	return l
}

// tableRounds are nodes that come back to themselves, and nodes that have the next ones more than once.
func tableRounds() []Wrong {
	var l []Wrong
	for _, kind := range []int{api.KTrie, api.KClash} {
		for _, size := range []int{-1, 0, 1, 2, 4, 200} {
			a := Ground(30)
			refs := leaves(&a, Items(5, 6))
			r := Write(&a, branch(kind, size, refs...))
			for kid := range 2 {
				a.Nodes[PlaceIn(r)].Kids[kid] = r
				l = append(l, found("a round", r, &a))
			}
		}
	}
	for size := 1; size <= api.Kids; size++ {
		a := Ground(30)
		r, other := Write(&a, branch(api.KClash, size)), Write(&a, branch(api.KClash, size))
		a.Nodes[PlaceIn(r)].Kids[0], a.Nodes[PlaceIn(other)].Kids[0] = r, r
		l = append(l, found("a round at level 10", over(&a, r, 5, Levels, size), &a))
		a.Nodes[PlaceIn(r)].Kids[0] = other
		l = append(l, found("a round at level 10", over(&a, r, 5, Levels, size), &a))
	}
	for kids := 1; kids <= 4; kids++ {
		for levels := 1; levels <= Levels; levels++ {
			a := Ground(60)
			r, size := Write(&a, leaf(api.Item{K: 5})), 1
			for range levels {
				size *= kids
				r = Write(&a, branch(api.KTrie, size, slices.Repeat([]api.Ref{r}, kids)...))
			}
			l = append(l, Wrong{"kids more than once", a, r})
		}
	}
	return l
}
