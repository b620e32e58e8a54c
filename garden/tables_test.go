package garden_test

import (
	"slices"
	"testing"

	"burgeon/api"
	"burgeon/arena"
	"burgeon/dice"
	"burgeon/garden"
	"burgeon/hamt"
	"burgeon/mix"
)

// What is planted as a table is one of what it was planted of, in an arena that may be.
func TestTableOf(t *testing.T) {
	for _, l := range garden.TableContents() {
		a, r := garden.TableOf(l, 30)
		if !arena.Right(a) || len(a.Free) != 30 {
			t.Fatalf("%d nodes, %d free, of %d keys", len(a.Nodes), len(a.Free), len(l))
		}
		if !garden.IsTable(a, r) || !hamt.Right(a, r) || !slices.Equal(garden.HeldTable(a, r), l) {
			t.Fatalf("%v is planted as %v", l, garden.HeldTable(a, r))
		}
		if garden.IsTable(a, garden.StoneOf(a)) {
			t.Fatalf("the stone is a table of %v", l)
		}
	}
}

// The nodes of small tables, written out.
func TestNodesOfTables(t *testing.T) {
	for n, l := range map[int][]api.Item{
		0: nil, 1: garden.Items(5), 3: garden.Items(5, garden.Sharing(5, 0)), 12: garden.Items(5, garden.Sharing(5, 9)),
		13: garden.Items(garden.OneHash()[:2]...), 20: garden.Items(garden.OneHash()[:9]...),
	} {
		if got := garden.TableNodes(l); got != n {
			t.Errorf("%v has %d nodes, not %d", l, got, n)
		}
	}
	a, r := garden.TableOf(garden.Items(5, garden.Sharing(5, 9)), 0)
	for level := range garden.Levels {
		n, _ := arena.Get(a, r)
		if n.Kind != api.KTrie || n.S != 2 {
			t.Fatalf("at level %d there is %v", level, n)
		}
		r = n.Kids[mix.Hash(5)>>(2*level)&3]
	}
	if n, _ := arena.Get(a, r); n.Kind != api.KLeaf || n.N != 5 {
		t.Errorf("at level 10 there is %v", n)
	}
}

func TestHashes(t *testing.T) {
	for _, keys := range [][]int64{garden.OneHash(), garden.TopHash()} {
		if len(keys) != 12 || !slices.IsSorted(keys) || len(slices.Compact(slices.Clone(keys))) != 12 || keys[0] < -garden.Most || keys[11] > garden.Most {
			t.Errorf("%v are not twelve keys", keys)
		}
		for _, key := range keys {
			if mix.Hash(key) != mix.Hash(keys[0]) {
				t.Errorf("%d has another hash", key)
			}
		}
	}
	for digits := range garden.Levels {
		hash, other := mix.Hash(5), mix.Hash(garden.Sharing(5, digits))
		if (hash^other)%(1<<(2*digits)) != 0 || (hash^other)>>(2*digits)%4 == 0 {
			t.Errorf("of %d and %d not just %d digits are alike", hash, other, digits)
		}
	}
	for _, hash := range []int{0, 1, 17, 1<<20 - 1} {
		for _, others := range []int{0, 1, 5, 1<<44 - 1} {
			if rank := mix.Rank(garden.Keyed(hash, others)); rank != uint64(others)<<20+uint64(hash) {
				t.Errorf("Keyed %d, %d has the rank %d", hash, others, rank)
			}
		}
	}
}

func TestNoTables(t *testing.T) {
	met := map[string]int{}
	for _, no := range garden.NoTables() {
		if garden.IsTable(no.Arena, no.Ref) && arena.Right(no.Arena) {
			t.Errorf("%s: %d is a table's", no.What, no.Ref)
		}
		if hamt.Right(no.Arena, no.Ref) {
			t.Errorf("%s: Right of %d", no.What, no.Ref)
		}
		met[no.What]++
	}
	for what, n := range met {
		if n < 3 && what != "a map" && what != "a clash with a gap" && what != "a clash with another size" && what != "a table beneath level 0" && what != "a trie at level 10" {
			t.Errorf("%s: only %d", what, n)
		}
	}
	if len(met) != 15+1+19+11+2+23 {
		t.Errorf("%d things are wrong", len(met))
	}
}

// Those that are written by hand lie in arenas that may be: what is wrong is the table.
func TestNoTablesLieInArenasThatMayBe(t *testing.T) {
	for _, no := range garden.NoTables()[15*6:] {
		if !arena.Right(no.Arena) && no.What != "a node that is free, and not listed so" && no.What != "a kid of another generation" {
			t.Errorf("%s: the arena may not be", no.What)
		}
	}
}

// Of tables that are changed here and there, some are still ones, and some not.
func TestSpoiledTables(t *testing.T) {
	d := dice.From(91)
	good, r := garden.TableOf(garden.From(0, 12, 2), 0)
	met := map[bool]int{}
	for range 2000 {
		a := garden.Spoiled(d, good)
		is := arena.Right(a) && garden.IsTable(a, r)
		if hamt.Right(a, r) != is {
			t.Fatalf("%v: %v", a, is)
		}
		met[is]++
	}
	if met[true] < 200 || met[false] < 200 {
		t.Errorf("%d tables and %d others are too few", met[true], met[false])
	}
}
