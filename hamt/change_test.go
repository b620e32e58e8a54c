package hamt_test

import (
	"math"
	"slices"
	"testing"

	"burgeon/api"
	"burgeon/arena"
	"burgeon/garden"
	"burgeon/hamt"
	"burgeon/mix"
)

// ofHash are the items of a key's hash.
func ofHash(l []api.Item, key int64) []api.Item {
	return slices.DeleteFunc(slices.Clone(l), func(i api.Item) bool { return mix.Hash(i.K) != mix.Hash(key) })
}

// Keys of all kinds are put and deleted, whether they are there or not: at the edges and beyond, of like hashes, and beside those that are there.
func TestPutAndDel(t *testing.T) {
	crossed := garden.Some(garden.CrossKeys(), 12)
	for _, l := range garden.TableContents() {
		for _, key := range slices.Concat(garden.EdgeKeys(), garden.Some(garden.KeysOf(l), 12), crossed) {
			putting(key).check(t, l)
			deleting(key).check(t, l)
		}
	}
}

func TestPutOfValues(t *testing.T) {
	for _, v := range []int64{0, 1, -1, garden.Most + 1, math.MaxInt64, math.MinInt64} {
		for _, key := range []int64{5, 21} {
			call{true, key, v}.check(t, nil)
			call{true, key, v}.check(t, upTo(20))
			call{true, key, v}.check(t, allOf(garden.OneHash()))
		}
	}
	call{true, 5, 1005}.check(t, upTo(20)) // the value that it has
}

func TestPutOfKeysBeyond(t *testing.T) {
	for _, l := range garden.TableContents() {
		for _, key := range farKeys { // some are there, too
			putting(key).check(t, l)
		}
	}
}

// With 200 keys each is put again and deleted; no other one is put beside them.
func TestAt200Keys(t *testing.T) {
	for _, l := range [][]api.Item{upTo(200), garden.From(garden.Most-199, garden.Most, 1), garden.From(-garden.Most, -garden.Most+199, 1)} {
		for _, item := range garden.Some(l, 40) {
			putting(item.K).check(t, l)
			deleting(item.K).check(t, l)
		}
		a, r := garden.TableOf(l, 100)
		for _, key := range slices.Concat(garden.EdgeKeys(), garden.CrossKeys(), []int64{l[0].K - 1, l[199].K + 1}) {
			if garden.Has(l, key) {
				continue
			}
			if b, s, err := hamt.Put(a, r, key, 77); err != api.ErrRange || s != 0 || !garden.Empty(b) {
				t.Errorf("Put %d: %d nodes, %d, %d", key, len(b.Nodes), s, err)
			}
		}
	}
	for _, item := range garden.Some(garden.Crowd(), 40) {
		deleting(item.K).check(t, garden.Crowd())
	}
}

// The 200th key is put, the 201st one is not, and is as soon as another one is gone.
func TestPutOfThe201stKey(t *testing.T) {
	for _, key := range []int64{0, 200, garden.Most, -garden.Most} {
		putting(key).check(t, upTo(199))
	}
	a, r := garden.TableOf(upTo(200), 120)
	if _, _, err := hamt.Put(a, r, 201, 1); err != api.ErrRange {
		t.Fatalf("Put of the 201st key: %d", err)
	}
	a, r, err := hamt.Put(a, r, 200, 3)
	if err != api.OK {
		t.Fatalf("Put of the 200th key again: %d", err)
	}
	a, r, err = hamt.Del(a, r, 100)
	if err != api.OK {
		t.Fatalf("Del: %d", err)
	}
	a, r, err = hamt.Put(a, r, 201, 1)
	if err != api.OK {
		t.Fatalf("Put of the 200th key: %d", err)
	}
	checkTable(t, a, r, garden.With(garden.With(garden.Without(upTo(200), 100), 200, 3), 201, 1))
}

// Two keys that share all digits up to a level, and then not: one is put beside the other one, and deleted.
func TestKeysThatShareDigits(t *testing.T) {
	for digits := range garden.Levels {
		for _, key := range []int64{5, -100, garden.Most - 1<<24} {
			other := garden.Sharing(key, digits)
			for _, l := range [][]api.Item{garden.Items(key), garden.Items(key, other), garden.Items(other)} {
				for _, key := range []int64{key, other} {
					putting(key).check(t, l)
					deleting(key).check(t, l)
				}
			}
		}
	}
}

// Up to nine keys of one hash are put; the tenth one is not, and each of the nine is put again. Others are put beside them.
func TestKeysOfOneHash(t *testing.T) {
	near := garden.Sharing(garden.OneHash()[0], 9)
	for _, keys := range [][]int64{garden.OneHash(), garden.TopHash()} {
		reversed := slices.Clone(keys)
		slices.Reverse(reversed)
		for _, keys := range [][]int64{keys, reversed, slices.Concat(keys[6:], keys[:6])} {
			for n := range 10 {
				l := garden.Items(keys[:n]...)
				for _, key := range slices.Concat(keys, []int64{0, 1, near}) {
					putting(key).check(t, l)
					deleting(key).check(t, l)
				}
			}
		}
	}
}

// Beside nine keys of one hash a tenth is told ErrRange, wherever else there is room; and is put where one of the nine is gone.
func TestTheTenthOfOneHash(t *testing.T) {
	keys := garden.OneHash()
	l := garden.Items(slices.Concat(keys[:9], []int64{0, 1, 2, 3}, garden.TopHash()[:9])...)
	a, r := garden.TableOf(l, 60)
	for _, key := range slices.Concat(keys[9:], garden.TopHash()[9:]) {
		if b, s, err := hamt.Put(a, r, key, 1); err != api.ErrRange || s != 0 || !garden.Empty(b) {
			t.Errorf("Put of the tenth key: %d nodes, %d, %d", len(b.Nodes), s, err)
		}
	}
	a, r, err := hamt.Del(a, r, keys[4])
	if err != api.OK {
		t.Fatalf("Del: %d", err)
	}
	a, r, err = hamt.Put(a, r, keys[9], 1)
	if err != api.OK {
		t.Fatalf("Put of the ninth key: %d", err)
	}
	checkTable(t, a, r, garden.With(garden.Without(l, keys[4]), keys[9], 1))
	if _, _, err = hamt.Put(a, r, keys[4], 1); err != api.ErrRange {
		t.Errorf("Put of the tenth key: %d", err)
	}
}

// Del leaves one key of a node of KTrie or KClash, at each level: the leaf that was there is the table then.
func TestDelLeavesOneKey(t *testing.T) {
	for digits := range garden.Levels + 1 {
		other := garden.OneHash()[7]
		if digits < garden.Levels {
			other = garden.Sharing(5, digits)
		}
		for _, keys := range [][2]int64{{5, other}, {other, 5}} {
			deleting(keys[0]).check(t, garden.Items(5, other))
			a, r := garden.TableOf(garden.Items(5, other), 30)
			a, r, err := hamt.Del(a, r, keys[0])
			if n, _ := arena.Get(a, r); err != api.OK || n.Kind != api.KLeaf || n.N != keys[1] {
				t.Errorf("of %v there is left %v, %d", keys, n, err)
			}
			// Beside others the leaf goes up as far as it is alone.
			for _, third := range []int64{garden.Sharing(5, digits/2), garden.Sharing(5, 0), 7} {
				deleting(keys[0]).check(t, garden.With(garden.Items(5, other), third, 1))
			}
		}
	}
}

// Del of the last key leaves 0.
func TestDelOfTheLastKey(t *testing.T) {
	for _, key := range slices.Concat(garden.EdgeKeys(), garden.OneHash()) {
		l := garden.Items(key)
		deleting(key).check(t, l)
		a, r := garden.TableOf(l, 3)
		if _, s, err := hamt.Del(a, r, key); s != 0 || err != api.OK {
			t.Errorf("Del %d: %d, %d", key, s, err)
		}
	}
}
