package hamt_test

import (
	"cmp"
	"slices"
	"testing"

	"burgeon/api"
	"burgeon/garden"
	"burgeon/hamt"
)

// upTo are the keys from 1 to n, with values.
func upTo(n int64) []api.Item { return garden.From(1, n, 1) }

// allOf are keys of one hash, as many as there may be.
func allOf(keys []int64) []api.Item { return garden.Items(keys[:9]...) }

// farKeys are keys that are not put.
var farKeys = []int64{-garden.Most - 1, garden.Most + 1, -garden.Most - 2, garden.Most + 2, 1 << 31, -1 << 31, 1 << 32, 1<<32 + 5, garden.Low, garden.Low + 1, garden.Top, garden.Top - 1}

// mayPut tells whether a key may be put beside others.
func mayPut(l []api.Item, key int64) bool {
	if key < -garden.Most || key > garden.Most {
		return false
	}
	return garden.Has(l, key) || len(l) < 200 && len(ofHash(l, key)) < 9
}

// needOf are the nodes that a call needs at most, if its answer holds these.
func needOf(l []api.Item) int { return 2*garden.TableNodes(l) + 1 }

// room is how many nodes are free beside a table, so that a call has its need, or as many as an arena of 512 leaves.
func room(l, answer []api.Item) int { return min(needOf(answer), 511-garden.TableNodes(l)) }

// checkTable holds a table against what it must be.
func checkTable(t *testing.T, a api.Arena, r api.Ref, want []api.Item) {
	t.Helper()
	if !hamt.Right(a, r) || !garden.IsTable(a, r) {
		t.Fatalf("%d is no table's", r)
	}
	if got := garden.HeldTable(a, r); !slices.Equal(got, want) {
		t.Fatalf("held is %v, not %v", got, want)
	}
	if n, err := hamt.Size(a, r); n != len(want) || err != api.OK {
		t.Fatalf("Size of %v: %d, %d", want, n, err)
	}
	checkGot(t, a, r, want, garden.Some(garden.KeysOf(want), 5))
}

// checkGot has keys be asked for, of which some are there.
func checkGot(t *testing.T, a api.Arena, r api.Ref, l []api.Item, keys []int64) {
	t.Helper()
	for _, key := range keys {
		at, is := slices.BinarySearchFunc(l, key, func(i api.Item, key int64) int { return cmp.Compare(i.K, key) })
		want, wantErr := int64(0), api.ErrNone
		if is {
			want, wantErr = l[at].V, api.OK
		}
		if v, err := hamt.Get(a, r, key); v != want || err != wantErr {
			t.Fatalf("Get %d of %v: %d, %d", key, l, v, err)
		}
	}
}

// call is one of the calls that make tables: Put, or Del.
type call struct {
	put    bool
	key, v int64
}

// do does a call.
func (c call) do(a api.Arena, r api.Ref) (api.Arena, api.Ref, api.Errno) {
	if c.put {
		return hamt.Put(a, r, c.key, c.v)
	}
	return hamt.Del(a, r, c.key)
}

// of is what a call makes of items, and the error that it tells where nodes are free.
func (c call) of(l []api.Item) ([]api.Item, api.Errno) {
	switch {
	case c.put && !mayPut(l, c.key):
		return nil, api.ErrRange
	case c.put:
		return garden.With(l, c.key, c.v), api.OK
	case !garden.Has(l, c.key):
		return nil, api.ErrNone
	}
	return garden.Without(l, c.key), api.OK
}

// check does a call, and holds the answer against what it must be.
func (c call) check(t *testing.T, l []api.Item) {
	t.Helper()
	want, wantErr := c.of(l)
	a, r := garden.TableOf(l, room(l, want))
	before := garden.Clone(a)
	b, s, err := c.do(a, r)
	if !garden.Same(a, before) {
		t.Fatalf("%v changed the arena that it was handed", c)
	}
	if err != wantErr {
		t.Fatalf("%v of %v: %d, not %d", c, l, err, wantErr)
	}
	if err != api.OK {
		if s != 0 || !garden.Empty(b) {
			t.Fatalf("%v of %v: beside the error there are %d nodes, %d", c, l, len(b.Nodes), s)
		}
		return
	}
	c.checkAnswer(t, a, b, s, want)
	checkTable(t, b, r, l)
}

// checkAnswer holds the table that a call made, and its arena, against what they must be.
func (c call) checkAnswer(t *testing.T, before, a api.Arena, r api.Ref, want []api.Item) {
	t.Helper()
	checkTable(t, a, r, want)
	if made, is := garden.Grown(before, a); !is || made > needOf(want) {
		t.Fatalf("%v makes %d nodes, at most %d; all else is as it was: %v", c, made, needOf(want), is)
	}
}

// putting and deleting are calls with a key.
func putting(key int64) call  { return call{true, key, 77} }
func deleting(key int64) call { return call{false, key, 0} }
