package hamt_test

import (
	"testing"

	"burgeon/api"
	"burgeon/arena"
	"burgeon/dice"
	"burgeon/garden"
	"burgeon/hamt"
)

// wrongKeys are keys that are asked for, put and deleted where that is wrong: keys that would be there, and such as are not put.
var wrongKeys = []int64{0, 1, 5, 200, garden.Most, garden.Most + 1, -garden.Most - 1, garden.Top, garden.Low}

// refuse has all calls be done with a reference that is no table's, or of an arena that may not be.
func refuse(t *testing.T, what string, a api.Arena, r api.Ref) {
	t.Helper()
	before := garden.Clone(a)
	if hamt.Right(a, r) {
		t.Errorf("%s: %d is a table's", what, r)
	}
	if n, err := hamt.Size(a, r); n != 0 || err != api.ErrArg {
		t.Errorf("%s: Size: %d, %d", what, n, err)
	}
	for _, key := range wrongKeys {
		if v, err := hamt.Get(a, r, key); v != 0 || err != api.ErrArg {
			t.Errorf("%s: Get: %d, %d", what, v, err)
		}
		for _, c := range []call{putting(key), deleting(key)} {
			if b, s, err := c.do(a, r); s != 0 || !garden.Empty(b) || err != api.ErrArg {
				t.Errorf("%s: %v: %d nodes, %d, %d", what, c, len(b.Nodes), s, err)
			}
		}
	}
	if !garden.Same(a, before) {
		t.Errorf("%s: a call changed the arena that it was handed", what)
	}
}

func TestNoTables(t *testing.T) {
	for _, no := range garden.NoTables() {
		refuse(t, no.What, no.Arena, no.Ref)
	}
}

// Of tables that are changed here and there, all that are none are refused, and all others answered.
func TestTablesThatAreChanged(t *testing.T) {
	d := dice.From(95)
	met := map[bool]int{}
	for range 1000 {
		a, r := garden.TableOf(garden.From(0, int64(2*d.UpTo(12)), 2), 0)
		for range 1 + d.UpTo(3) {
			a = garden.Spoiled(d, a)
		}
		is := arena.Right(a) && garden.IsTable(a, r)
		if is {
			checkTable(t, a, r, garden.HeldTable(a, r))
		} else {
			refuse(t, "a table that is changed", a, r)
		}
		met[is]++
	}
	if met[true] < 200 || met[false] < 200 {
		t.Errorf("%d tables and %d others are too few", met[true], met[false])
	}
}

// A table that calls made is one until one of its nodes is dropped, and is none again where the place is used again.
func TestStaleReferences(t *testing.T) {
	keys := append(garden.OneHash()[:3], 1, 2, 3, 4)
	a, r := grow(t, keys)
	for place, n := range a.Nodes {
		if n.Kind == 0 {
			continue
		}
		b, err := arena.Drop(a, place)
		if err != api.OK {
			t.Fatalf("Drop: %d", err)
		}
		refuse(t, "a node is dropped", b, r)
		b, _, err = arena.Make(b, n)
		if err != api.OK || b.Nodes[place].Kind == 0 {
			t.Fatalf("Make: %d, %v", err, b.Nodes[place])
		}
		refuse(t, "a node is dropped and made again", b, r)
	}
}

// What is no table's comes ahead of all other errors: with 200 keys, nine of one hash, none that is there, and no free node.
func TestErrArgComesFirst(t *testing.T) {
	for _, l := range [][]api.Item{upTo(200), allOf(garden.OneHash()), garden.Items(5)} {
		a, r := garden.TableOf(l, 0)
		a.Nodes[garden.PlaceIn(garden.LeafOf(a))].Suf = 1
		refuse(t, "a leaf's Suf", a, r)
		refuse(t, "no node", a, garden.At(511, 0))
		for _, key := range append(farKeys, garden.CrossKeys()...) {
			for _, c := range []call{putting(key), deleting(key)} {
				if _, _, err := c.do(a, r); err != api.ErrArg {
					t.Errorf("%v: %d", c, err)
				}
			}
		}
	}
}
