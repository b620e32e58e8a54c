package garden

import (
	"cmp"
	"slices"

	"burgeon/api"
	"burgeon/arena"
)

// PlantTable writes a table into an arena, in its one shape.
func PlantTable(a *api.Arena, l []api.Item) api.Ref { return plantFrom(a, l, 0) }

// plantFrom writes the table of items at a level.
func plantFrom(a *api.Arena, l []api.Item, level int) api.Ref {
	switch {
	case len(l) == 0:
		return 0
	case len(l) == 1:
		return Write(a, leaf(l[0]))
	case level == Levels:
		return Write(a, branch(api.KClash, len(l), leaves(a, l)...))
	}
	var tables [4]api.Ref
	for digit := range tables {
		tables[digit] = plantFrom(a, withDigit(l, level, digit), level+1)
	}
	return Write(a, branch(api.KTrie, len(l), tables[:]...))
}

// leaf is a node of one key.
func leaf(i api.Item) api.Node { return api.Node{Kind: api.KLeaf, N: i.K, V: i.V} }

// leaves writes nodes of one key each.
func leaves(a *api.Arena, l []api.Item) []api.Ref {
	var refs []api.Ref
	for _, item := range l {
		refs = append(refs, Write(a, leaf(item)))
	}
	return refs
}

// branch is a node of so many keys, above others.
func branch(kind, size int, kids ...api.Ref) api.Node {
	n := api.Node{Kind: kind, S: int64(size)}
	copy(n.Kids[:], kids)
	return n
}

// withDigit are the items of which the keys have a digit at a level.
func withDigit(l []api.Item, level, digit int) []api.Item {
	return slices.DeleteFunc(slices.Clone(l), func(i api.Item) bool { return Digit(i.K, level) != digit })
}

// TableNodes is how many nodes a table has.
func TableNodes(l []api.Item) int { return nodesFrom(l, 0) }

// nodesFrom is how many nodes the table of items has at a level.
func nodesFrom(l []api.Item, level int) int {
	switch {
	case len(l) <= 1:
		return len(l)
	case level == Levels:
		return 1 + len(l)
	}
	n := 1
	for digit := range 4 {
		n += nodesFrom(withDigit(l, level, digit), level+1)
	}
	return n
}

// TableOf is an arena with a table of items, a stone, and so many free nodes.
func TableOf(l []api.Item, free int) (api.Arena, api.Ref) {
	a := Ground(TableNodes(l) + 1 + free)
	Write(&a, Stone())
	r := PlantTable(&a, l)
	return a, r
}

// HeldTable are the items of a table, read node by node.
func HeldTable(a api.Arena, r api.Ref) []api.Item {
	l, _ := itemsIn(a, r)
	return l
}

// IsTable tells whether a reference is a table's: all nodes that are reached from it are those of the table of the keys that are met.
func IsTable(a api.Arena, r api.Ref) bool {
	l, is := itemsIn(a, r)
	if !is || !mayTable(l) {
		return false
	}
	b, s := TableOf(l, 0)
	return Alike(a, r, b, s)
}

// itemsIn are the items whose leaves are met from a reference, in the order of their keys, and whether these ways end: the nodes of 200 keys are not so many.
func itemsIn(a api.Arena, r api.Ref) ([]api.Item, bool) {
	const tooMany = api.MaxItems * 12
	var l []api.Item
	met := 0
	var meet func(r api.Ref)
	meet = func(r api.Ref) {
		n, err := arena.Get(a, r)
		if err != api.OK || met > tooMany {
			return
		}
		met++
		if n.Kind == api.KLeaf {
			l = append(l, api.Item{K: n.N, V: n.V})
			return
		}
		for _, kid := range n.Kids {
			meet(kid)
		}
	}
	meet(r)
	slices.SortStableFunc(l, func(a, b api.Item) int { return cmp.Compare(a.K, b.K) })
	return l, met <= tooMany
}

// mayTable tells whether there may be a table of items.
func mayTable(l []api.Item) bool {
	ofHash := map[int]int{}
	for i, item := range l {
		ofHash[hashOf(item.K)]++
		if i > 0 && l[i-1].K == item.K || ofHash[hashOf(item.K)] > api.Kids {
			return false
		}
	}
	return len(l) <= api.MaxItems
}
