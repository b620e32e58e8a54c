package order_test

import (
	"cmp"
	"math"
	"slices"

	"burgeon/api"
	"burgeon/arena"
	"burgeon/dice"
	"burgeon/mix"
)

const (
	most   = 1 << 30
	topKey = math.MaxInt64
	lowKey = math.MinInt64
)

// at is the reference of a place and a generation.
func at(place, gen int) api.Ref { return api.Ref(gen)<<16 + api.Ref(place) + 1 }

// placeIn is the place of a reference.
func placeIn(r api.Ref) int { return int(r%65536) - 1 }

// ground is an arena of n free nodes, in no order, which were used before.
func ground(n int) api.Arena {
	a := api.Arena{Nodes: make([]api.Node, n)}
	d := dice.From(uint64(n))
	for i := range n {
		a.Nodes[i].Gen = d.UpTo(1 << 20)
		a.Free = slices.Insert(a.Free, d.UpTo(i+1), i)
	}
	return a
}

// written writes a node into an arena by hand.
func written(a *api.Arena, n api.Node) api.Ref {
	last := len(a.Free) - 1
	place := a.Free[last]
	a.Free = a.Free[:last]
	n.Gen = a.Nodes[place].Gen
	a.Nodes[place] = n
	return at(place, n.Gen)
}

// planted writes a map into an arena by hand: the key that is Before all others is its top.
func planted(a *api.Arena, l []api.Item) api.Ref {
	if len(l) == 0 {
		return 0
	}
	top := 0
	for i := range l {
		if mix.Before(l[i].K, l[top].K) {
			top = i
		}
	}
	low, high := planted(a, l[:top]), planted(a, l[top+1:])
	return written(a, api.Node{Kind: api.KTreap, N: l[top].K, V: l[top].V, S: int64(len(l)), Kids: [9]api.Ref{low, high}})
}

// stone is a node of no map.
var stone = api.Node{Kind: 7, N: 5, V: 6, S: 1, Pre: 8, Suf: 9}

// garden is an arena with a map that was made by hand, a stone, and so many free nodes.
func garden(l []api.Item, free int) (api.Arena, api.Ref) {
	a := ground(len(l) + 1 + free)
	written(&a, stone)
	r := planted(&a, l)
	return a, r
}

// held are the items of a map, read node by node.
func held(a api.Arena, r api.Ref) []api.Item {
	n, err := arena.Get(a, r)
	if err != api.OK {
		return nil
	}
	return slices.Concat(held(a, n.Kids[0]), []api.Item{{K: n.N, V: n.V}}, held(a, n.Kids[1]))
}

// clone is an arena of new memory.
func clone(a api.Arena) api.Arena {
	return api.Arena{Nodes: slices.Clone(a.Nodes), Free: slices.Clone(a.Free)}
}

// same holds arenas against each other.
func same(a, b api.Arena) bool {
	return slices.Equal(a.Nodes, b.Nodes) && slices.Equal(a.Free, b.Free)
}

// itemsOf are keys, sorted, with values of their own, none of which is 0.
func itemsOf(keys ...int64) []api.Item {
	var l []api.Item
	for _, key := range keys {
		l = append(l, api.Item{K: key, V: 1000 + key%1000})
	}
	slices.SortFunc(l, func(a, b api.Item) int { return cmp.Compare(a.K, b.K) })
	return l
}

// from are the keys from one to another one, each so far from the last one, with values.
func from(low, high, by int64) []api.Item {
	var keys []int64
	for key := low; key <= high; key += by {
		keys = append(keys, key)
	}
	return itemsOf(keys...)
}

// row are n keys, each Before all that come behind it, so that their map is one way down; each lies in a stretch of its own, which is told by what it comes behind.
func row(n int, stretch func(i int) int) []api.Item {
	var keys []int64
	for i := range n {
		key := int64(stretch(i)) * 10000
		for mix.Rank(key)>>56 != uint64(i) {
			key++
		}
		keys = append(keys, key)
	}
	return itemsOf(keys...)
}

func rising(i int) int { return i }

func falling(i int) int { return 200 - i }

// inward is now from the one end, now from the other one.
func inward(i int) int {
	if i%2 == 0 {
		return i
	}
	return 400 - i
}

// contents are what maps hold: from nothing to 200 keys, at the edges and beyond what is put.
func contents() [][]api.Item {
	l := [][]api.Item{
		nil,
		itemsOf(0), itemsOf(5), itemsOf(-most), itemsOf(most), itemsOf(lowKey), itemsOf(topKey),
		itemsOf(1, 5, 9), itemsOf(-7, 3, 0, 4, 5, -6, 2), itemsOf(-most, 0, most),
		itemsOf(lowKey, topKey), itemsOf(lowKey, lowKey+1, -1, 0, 1, topKey-1, topKey), itemsOf(lowKey, 5, topKey),
		from(1, 2, 1), from(1, 10, 1), from(1, 199, 1), from(-100, 99, 1), from(-600, 597, 6),
		row(200, rising), row(200, falling), row(200, inward),
	}
	d := dice.From(71)
	for range 4 {
		keys := map[int64]int{}
		for range 1 + d.UpTo(200) {
			keys[int64(d.UpTo(most))-most/2]++
		}
		var some []int64
		for key := range keys {
			some = append(some, key)
		}
		l = append(l, itemsOf(some...))
	}
	return l
}

// edgeKeys are keys that all maps are asked for.
var edgeKeys = []int64{lowKey, lowKey + 1, -most - 1, -most, -1, 0, 1, 6, most, most + 1, 1 << 32, topKey - 1, topKey}

// keysOf are the keys of items, the ones beside each, the ones between two, and those at the edges.
func keysOf(l []api.Item) []int64 {
	keys := slices.Clone(edgeKeys)
	for i, item := range l {
		keys = append(keys, item.K)
		if item.K > lowKey {
			keys = append(keys, item.K-1)
		}
		if item.K < topKey {
			keys = append(keys, item.K+1)
		}
		if i > 0 {
			keys = append(keys, l[i-1].K/2+item.K/2)
		}
	}
	slices.Sort(keys)
	return slices.Compact(keys)
}

// some are numbers of a row, at most about n of them, with the first and the last one.
func some[T any](l []T, n int) []T {
	var out []T
	for i := 0; i < len(l)-1; i += 1 + len(l)/n {
		out = append(out, l[i])
	}
	return append(out, l[len(l)-1])
}

// placeOf is how many items' keys are below one.
func placeOf(l []api.Item, key int64) int {
	n := 0
	for _, item := range l {
		if item.K < key {
			n++
		}
	}
	return n
}

// floorOf is the last item whose key is not above one.
func floorOf(l []api.Item, key int64) (api.Item, api.Errno) {
	found, err := api.Item{}, api.ErrNone
	for _, item := range l {
		if item.K <= key {
			found, err = item, api.OK
		}
	}
	return found, err
}

// ceilOf is the first item whose key is not below one.
func ceilOf(l []api.Item, key int64) (api.Item, api.Errno) {
	for _, item := range l {
		if item.K >= key {
			return item, api.OK
		}
	}
	return api.Item{}, api.ErrNone
}

// itemAt is the item of a place.
func itemAt(l []api.Item, place int) (api.Item, api.Errno) {
	if place < 0 || place >= len(l) {
		return api.Item{}, api.ErrNone
	}
	return l[place], api.OK
}
