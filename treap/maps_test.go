package treap_test

import (
	"cmp"
	"slices"
	"testing"

	"burgeon/api"
	"burgeon/arena"
	"burgeon/garden"
	"burgeon/mix"
	"burgeon/treap"
)

// upTo are the keys from 1 to n, with values.
func upTo(n int64) []api.Item { return garden.From(1, n, 1) }

// empty tells whether an arena is the zero value.
func empty(a api.Arena) bool { return len(a.Nodes) == 0 && len(a.Free) == 0 }

// alike tells whether two maps have one shape and content.
func alike(a api.Arena, r api.Ref, b api.Arena, s api.Ref) bool {
	if r == 0 || s == 0 {
		return r == s
	}
	n, _ := arena.Get(a, r)
	m, _ := arena.Get(b, s)
	return n.N == m.N && n.V == m.V && n.S == m.S && alike(a, n.Kids[0], b, m.Kids[0]) && alike(a, n.Kids[1], b, m.Kids[1])
}

// checkMap holds a map against what it must be.
func checkMap(t *testing.T, a api.Arena, r api.Ref, want []api.Item) {
	t.Helper()
	if !treap.Right(a, r) || !garden.IsMap(a, r) {
		t.Fatalf("%d is no map's", r)
	}
	if got := garden.Held(a, r); !slices.Equal(got, want) {
		t.Fatalf("held is %v, not %v", got, want)
	}
	if b, s := garden.Of(want, 0); !alike(a, r, b, s) {
		t.Fatalf("the map of %v has another shape", want)
	}
	for i := 0; i < len(want); i += 1 + len(want)/2 {
		checkGot(t, a, r, want, i)
	}
	checkGot(t, a, r, want, len(want)-1)
}

// checkGot has the value of an item be got, and the keys beside it, if they are not there.
func checkGot(t *testing.T, a api.Arena, r api.Ref, l []api.Item, i int) {
	t.Helper()
	if i < 0 {
		checkNone(t, a, r, 0)
		return
	}
	key := l[i].K
	if v, err := treap.Get(a, r, key); v != l[i].V || err != api.OK {
		t.Fatalf("Get %d: %d, %d", key, v, err)
	}
	if key < garden.Top && !has(l, key+1) {
		checkNone(t, a, r, key+1)
	}
	if key > garden.Low && !has(l, key-1) {
		checkNone(t, a, r, key-1)
	}
}

// checkNone has a key be asked for that is not there.
func checkNone(t *testing.T, a api.Arena, r api.Ref, key int64) {
	t.Helper()
	if v, err := treap.Get(a, r, key); v != 0 || err != api.ErrNone {
		t.Fatalf("Get %d, which is not there: %d, %d", key, v, err)
	}
}

// checkGrown holds an arena against the one that it comes of: what was a node is that one, node by node, and the others were made of the last free ones, at most so many.
func checkGrown(t *testing.T, before, a api.Arena, need int) {
	t.Helper()
	if !arena.Right(a) || len(a.Nodes) != len(before.Nodes) || len(a.Free) > len(before.Free) {
		t.Fatalf("%d nodes and %d free of %d and %d, right %v", len(a.Nodes), len(a.Free), len(before.Nodes), len(before.Free), arena.Right(a))
	}
	if n := len(before.Free) - len(a.Free); n > need {
		t.Fatalf("%d nodes are made, more than %d", n, need)
	}
	if !slices.Equal(a.Free, before.Free[:len(a.Free)]) {
		t.Fatalf("%v is free of %v", a.Free, before.Free)
	}
	for i, n := range before.Nodes {
		if n.Kind != 0 && a.Nodes[i] != n {
			t.Fatalf("at %d there is %v, and was %v", i, a.Nodes[i], n)
		}
		if a.Nodes[i].Gen != n.Gen {
			t.Fatalf("at %d there is generation %d, and was %d", i, a.Nodes[i].Gen, n.Gen)
		}
	}
}

// with are items with one more, or with another value of a key.
func with(l []api.Item, key, v int64) []api.Item {
	return slices.Concat(below(l, key), []api.Item{{K: key, V: v}}, without(others(l, key), key))
}

// without are items without a key.
func without(l []api.Item, key int64) []api.Item {
	return slices.DeleteFunc(slices.Clone(l), func(i api.Item) bool { return i.K == key })
}

// below are the items of the keys below one.
func below(l []api.Item, key int64) []api.Item {
	return slices.DeleteFunc(slices.Clone(l), func(i api.Item) bool { return i.K >= key })
}

// others are the items of the keys that are not below one.
func others(l []api.Item, key int64) []api.Item {
	return slices.DeleteFunc(slices.Clone(l), func(i api.Item) bool { return i.K < key })
}

// has tells whether a key is one of items.
func has(l []api.Item, key int64) bool {
	return slices.ContainsFunc(l, func(i api.Item) bool { return i.K == key })
}

// wants are the nodes that a call needs at most, if its answer has so many keys.
func wants(keys int) int { return 2*keys + 1 }

// byRank are the keys of items, each Before all that come behind it.
func byRank(l []api.Item) []int64 {
	var keys []int64
	for _, item := range l {
		keys = append(keys, item.K)
	}
	slices.SortFunc(keys, func(a, b int64) int {
		if mix.Before(a, b) {
			return -1
		}
		return 1
	})
	return keys
}

// hung writes a row of nodes, each but the first one the kid of the one ahead, on a side.
func hung(a *api.Arena, keys []int64, on []int) api.Ref {
	n := api.Node{Kind: api.KTreap, N: keys[0], V: 1, S: int64(len(keys))}
	if len(keys) > 1 {
		n.Kids[on[0]] = hung(a, keys[1:], on[1:])
	}
	return garden.Write(a, n)
}

// row are so many keys, rising or falling, each Before all that come behind it: the longest such row of some thousand keys, cut.
func row(n int, falling bool) []int64 {
	keys := byRank(upTo(14000))
	if falling {
		for i := range keys {
			keys[i] = -keys[i]
		}
	}
	var ends []int // of the rows of each length the one whose last key is the least
	ahead := make([]int, len(keys))
	for i, key := range keys {
		length, _ := slices.BinarySearchFunc(ends, key, func(end int, key int64) int { return cmp.Compare(keys[end], key) })
		if length == len(ends) {
			ends = append(ends, i)
		}
		ends[length], ahead[i] = i, -1
		if length > 0 {
			ahead[i] = ends[length-1]
		}
	}
	var out []int64
	for i := ends[n-1]; i >= 0; i = ahead[i] {
		out = append(out, max(keys[i], -keys[i]))
	}
	slices.Reverse(out)
	return out
}
