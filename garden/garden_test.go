package garden_test

import (
	"slices"
	"testing"

	"burgeon/api"
	"burgeon/arena"
	"burgeon/dice"
	"burgeon/garden"
	"burgeon/treap"
)

// What is planted is a map of what it was planted of, in an arena that may be.
func TestOf(t *testing.T) {
	for _, l := range garden.Contents() {
		for _, free := range []int{0, 1, 30} {
			a, r := garden.Of(l, free)
			if !arena.Right(a) || len(a.Free) != free || len(a.Nodes) != len(l)+1+free {
				t.Fatalf("%d nodes, %d free, of %d keys", len(a.Nodes), len(a.Free), len(l))
			}
			if !garden.IsMap(a, r) || !treap.Right(a, r) || !slices.Equal(garden.Held(a, r), l) {
				t.Fatalf("%v is planted as %v", l, garden.Held(a, r))
			}
			if s := garden.StoneOf(a); garden.IsMap(a, s) || a.Nodes[garden.PlaceIn(s)].Kind != garden.Stone().Kind {
				t.Fatalf("the stone is a map of %v", l)
			}
		}
	}
}

// A row of 200 keys is one way down.
func TestRow(t *testing.T) {
	for _, stretch := range []func(int) int{garden.Rising, garden.Falling, garden.Inward} {
		a, r := garden.Of(garden.Row(200, stretch), 0)
		for size := int64(200); r != 0; size-- {
			n, err := arena.Get(a, r)
			if err != api.OK || n.S != size || n.Kids[0] != 0 && n.Kids[1] != 0 {
				t.Fatalf("%v, of %d keys: %d", n, size, err)
			}
			r = n.Kids[0] + n.Kids[1]
		}
	}
}

func TestNoMaps(t *testing.T) {
	met := map[string]int{}
	for _, no := range garden.NoMaps() {
		if treap.Right(no.Arena, no.Ref) {
			t.Errorf("%s: %d is a map's", no.What, no.Ref)
		}
		met[no.What]++
	}
	for what, n := range met {
		if n < 3 && what != "a row of kids twice" {
			t.Errorf("%s: only %d", what, n)
		}
	}
	if len(met) != 15+1+20+2+1+1+1 {
		t.Errorf("%d things are wrong", len(met))
	}
}

// Of arenas that are changed here and there, some are still maps, and some not.
func TestSpoiled(t *testing.T) {
	d := dice.From(73)
	good, r := garden.Of(garden.From(0, 12, 2), 0)
	before, met := garden.Clone(good), map[bool]int{}
	for range 1000 {
		a := garden.Spoiled(d, good)
		is := arena.Right(a) && garden.IsMap(a, r)
		if treap.Right(a, r) != is {
			t.Fatalf("%v: %v", a, is)
		}
		met[is]++
	}
	if met[true] < 200 || met[false] < 200 {
		t.Errorf("%d maps and %d others are too few", met[true], met[false])
	}
	if !garden.Same(good, before) {
		t.Error("Spoiled changed the arena that it was handed")
	}
}

// KeysOf has all edges, each key, and those beside it, once each and sorted.
func TestKeysOf(t *testing.T) {
	keys := garden.KeysOf(garden.Items(garden.Low, 100, 200, garden.Top))
	for _, key := range slices.Concat(garden.EdgeKeys(), []int64{99, 100, 101, 150, 199, 200, 201}) {
		if !slices.Contains(keys, key) {
			t.Errorf("%d is lacking", key)
		}
	}
	if !slices.IsSorted(keys) || len(slices.Compact(slices.Clone(keys))) != len(keys) {
		t.Errorf("%v is not sorted", keys)
	}
	if l := garden.Some(keys, 5); l[0] != garden.Low || l[len(l)-1] != garden.Top || len(l) > 7 {
		t.Errorf("some are %v", l)
	}
}
