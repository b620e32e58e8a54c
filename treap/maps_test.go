package treap_test

import (
	"cmp"
	"slices"
	"testing"

	"burgeon/api"
	"burgeon/garden"
	"burgeon/mix"
	"burgeon/treap"
)

// upTo are the keys from 1 to n, with values.
func upTo(n int64) []api.Item { return garden.From(1, n, 1) }

// checkMap holds a map against what it must be.
func checkMap(t *testing.T, a api.Arena, r api.Ref, want []api.Item) {
	t.Helper()
	if !treap.Right(a, r) || !garden.IsMap(a, r) {
		t.Fatalf("%d is no map's", r)
	}
	if got := garden.Held(a, r); !slices.Equal(got, want) {
		t.Fatalf("held is %v, not %v", got, want)
	}
	if b, s := garden.Of(want, 0); !garden.Alike(a, r, b, s) {
		t.Fatalf("the map of %v has another shape", want)
	}
	for i := 0; i < len(want); i += 1 + len(want)/2 {
		checkGot(t, a, r, want, i)
	}
	checkGot(t, a, r, want, len(want)-1)
}

// checkGot has the value of an item be got, and the keys beside it, if they are not there.
func checkGot(t *testing.T, a api.Arena, r api.Ref, l []api.Item, i int) {
	t.Helper()
	if i < 0 {
		checkNone(t, a, r, 0)
		return
	}
	key := l[i].K
	if v, err := treap.Get(a, r, key); v != l[i].V || err != api.OK {
		t.Fatalf("Get %d: %d, %d", key, v, err)
	}
	if key < garden.Top && !garden.Has(l, key+1) {
		checkNone(t, a, r, key+1)
	}
	if key > garden.Low && !garden.Has(l, key-1) {
		checkNone(t, a, r, key-1)
	}
}

// checkNone has a key be asked for that is not there.
func checkNone(t *testing.T, a api.Arena, r api.Ref, key int64) {
	t.Helper()
	if v, err := treap.Get(a, r, key); v != 0 || err != api.ErrNone {
		t.Fatalf("Get %d, which is not there: %d, %d", key, v, err)
	}
}

// checkGrown holds an arena against the one that it comes of: at most so many nodes are made, and all else is as it was.
func checkGrown(t *testing.T, before, a api.Arena, need int) {
	t.Helper()
	if made, is := garden.Grown(before, a); !is || made > need {
		t.Fatalf("%d nodes are made, at most %d; all else as it was: %v", made, need, is)
	}
}

// below are the items of the keys below one.
func below(l []api.Item, key int64) []api.Item {
	return slices.DeleteFunc(slices.Clone(l), func(i api.Item) bool { return i.K >= key })
}

// others are the items of the keys that are not below one.
func others(l []api.Item, key int64) []api.Item {
	return slices.DeleteFunc(slices.Clone(l), func(i api.Item) bool { return i.K < key })
}

// wants are the nodes that a call needs at most, if its answer has so many keys.
func wants(keys int) int { return 2*keys + 1 }

// byRank are the keys of items, each Before all that come behind it.
func byRank(l []api.Item) []int64 {
	var keys []int64
	for _, item := range l {
		keys = append(keys, item.K)
	}
	slices.SortFunc(keys, func(a, b int64) int {
		if mix.Before(a, b) {
			return -1
		}
		return 1
	})
	return keys
}

// hung writes a row of nodes, each but the first one the kid of the one ahead, on a side.
func hung(a *api.Arena, keys []int64, on []int) api.Ref {
	n := api.Node{Kind: api.KTreap, N: keys[0], V: 1, S: int64(len(keys))}
	if len(keys) > 1 {
		n.Kids[on[0]] = hung(a, keys[1:], on[1:])
	}
	return garden.Write(a, n)
}

// row are so many keys, rising or falling, each Before all that come behind it: the longest such row of some thousand keys, cut.
func row(n int, falling bool) []int64 {
	keys := byRank(upTo(14000))
	if falling {
		for i := range keys {
			keys[i] = -keys[i]
		}
	}
	var ends []int // of the rows of each length the one whose last key is the least
	ahead := make([]int, len(keys))
	for i, key := range keys {
		length, _ := slices.BinarySearchFunc(ends, key, func(end int, key int64) int { return cmp.Compare(keys[end], key) })
		if length == len(ends) {
			ends = append(ends, i)
		}
		ends[length], ahead[i] = i, -1
		if length > 0 {
			ahead[i] = ends[length-1]
		}
	}
	var out []int64
	for i := ends[n-1]; i >= 0; i = ahead[i] {
		out = append(out, max(keys[i], -keys[i]))
	}
	slices.Reverse(out)
	return out
}
