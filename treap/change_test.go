package treap_test

import (
	"math"
	"slices"
	"testing"

	"burgeon/api"
	"burgeon/dice"
	"burgeon/garden"
	"burgeon/treap"
)

// room is how many nodes are free beside a map, so that each call has its need, or as many as an arena of 512 leaves.
func room(keys int) int { return min(wants(keys+1), 511-keys) }

// checkPut has a key be put, and holds the answer against what it must be.
func checkPut(t *testing.T, l []api.Item, key, v int64) {
	t.Helper()
	a, r := garden.Of(l, room(len(l)))
	before := garden.Clone(a)
	b, s, err := treap.Put(a, r, key, v)
	if err != api.OK {
		t.Fatalf("Put %d of %d keys: %d", key, len(l), err)
	}
	want := garden.With(l, key, v)
	checkMap(t, b, s, want)
	checkMap(t, b, r, l)
	checkGrown(t, before, b, wants(len(want)))
	if !garden.Same(a, before) {
		t.Fatal("Put changed the arena that it was handed")
	}
}

// edgeKeys are keys that may be put.
var edgeKeys = []int64{-garden.Most, -garden.Most + 1, -101, -100, -1, 0, 1, 2, 5, 6, 9, 99, 100, 101, 199, 200, 201, garden.Most - 1, garden.Most}

func TestPut(t *testing.T) {
	for _, l := range contents() {
		for _, key := range edgeKeys {
			if len(l) < 200 || garden.Has(l, key) {
				checkPut(t, l, key, 77)
			}
		}
	}
}

func TestPutOfValues(t *testing.T) {
	for _, v := range []int64{0, 1, -1, garden.Most + 1, math.MaxInt64, math.MinInt64} {
		checkPut(t, nil, 5, v)
		checkPut(t, upTo(20), 5, v)
		checkPut(t, upTo(20), 21, v)
	}
	checkPut(t, upTo(20), 5, 1005) // the value that it has
}

// Keys that are there, of 200, are put again, of the first ones each; no other one is put beside them.
func TestPutAt200Keys(t *testing.T) {
	step := 1
	for _, l := range [][]api.Item{upTo(200), garden.From(-100, 99, 1), garden.From(garden.Most-199, garden.Most, 1), garden.From(-garden.Most, -garden.Most+199, 1)} {
		for i := 0; i < len(l); i += step {
			checkPut(t, l, l[i].K, 77)
		}
		step = 11
		a, r := garden.Of(l, 300)
		for _, key := range append(edgeKeys, l[0].K-1, l[199].K+1) {
			if garden.Has(l, key) {
				continue
			}
			if b, s, err := treap.Put(a, r, key, 77); err != api.ErrRange || s != 0 || !garden.Empty(b) {
				t.Errorf("Put %d: %d nodes, %d, %d", key, len(b.Nodes), s, err)
			}
		}
	}
}

// The 200th key is put, the 201st one is not, and is as soon as another one is gone.
func TestPutOfThe201stKey(t *testing.T) {
	checkPut(t, upTo(199), 200, 1)
	checkPut(t, upTo(199), 0, 1)
	checkPut(t, garden.Items(), 0, 1)
	a, r := garden.Of(upTo(200), 200)
	if _, _, err := treap.Put(a, r, 201, 1); err != api.ErrRange {
		t.Fatalf("Put of the 201st key: %d", err)
	}
	a, r, err := treap.Del(a, r, 100)
	if err != api.OK {
		t.Fatalf("Del: %d", err)
	}
	a, r, err = treap.Put(a, r, 201, 1)
	if err != api.OK {
		t.Fatalf("Put of the 200th key: %d", err)
	}
	checkMap(t, a, r, garden.With(garden.Without(upTo(200), 100), 201, 1))
}

// farKeys are keys that are not put.
var farKeys = []int64{-garden.Most - 1, garden.Most + 1, -garden.Most - 2, garden.Most + 2, 1 << 31, -1 << 31, 1 << 32, 1<<32 + 5, garden.Low, garden.Low + 1, garden.Top, garden.Top - 1}

func TestPutOfKeysBeyond(t *testing.T) {
	for _, l := range contents() {
		a, r := garden.Of(l, room(len(l)))
		for _, key := range farKeys { // some are there, too
			if b, s, err := treap.Put(a, r, key, 1); err != api.ErrRange || s != 0 || !garden.Empty(b) {
				t.Errorf("Put %d of %v: %d nodes, %d, %d", key, l, len(b.Nodes), s, err)
			}
		}
	}
}

// checkDel has a key be gone, and holds the answer against what it must be.
func checkDel(t *testing.T, l []api.Item, key int64) {
	t.Helper()
	a, r := garden.Of(l, room(len(l)))
	before := garden.Clone(a)
	b, s, err := treap.Del(a, r, key)
	if !garden.Has(l, key) {
		if err != api.ErrNone || s != 0 || !garden.Empty(b) {
			t.Fatalf("Del %d of %v: %d nodes, %d, %d", key, l, len(b.Nodes), s, err)
		}
		return
	}
	if err != api.OK {
		t.Fatalf("Del %d of %v: %d", key, l, err)
	}
	want := garden.Without(l, key)
	checkMap(t, b, s, want)
	checkMap(t, b, r, l)
	checkGrown(t, before, b, wants(len(want)))
	if !garden.Same(a, before) {
		t.Fatal("Del changed the arena that it was handed")
	}
}

func TestDel(t *testing.T) {
	for _, l := range contents() {
		for _, key := range slices.Concat(edgeKeys, farKeys) {
			checkDel(t, l, key)
		}
		for i := 0; i < len(l); i += 1 + len(l)/8 {
			checkDel(t, l, l[i].K)
		}
	}
	for _, item := range upTo(200) {
		checkDel(t, upTo(200), item.K)
	}
}

// checkSplit has a map be parted, and holds the answer against what it must be.
func checkSplit(t *testing.T, l []api.Item, key int64) {
	t.Helper()
	a, r := garden.Of(l, room(len(l)))
	before := garden.Clone(a)
	b, low, high, err := treap.Split(a, r, key)
	if err != api.OK {
		t.Fatalf("Split %d of %v: %d", key, l, err)
	}
	checkMap(t, b, low, below(l, key))
	checkMap(t, b, high, others(l, key))
	checkMap(t, b, r, l)
	checkGrown(t, before, b, wants(len(l)))
	if !garden.Same(a, before) {
		t.Fatal("Split changed the arena that it was handed")
	}
}

func TestSplit(t *testing.T) {
	for _, l := range contents() {
		for _, key := range slices.Concat(edgeKeys, farKeys) {
			checkSplit(t, l, key)
		}
		for i := 0; i < len(l); i += 1 + len(l)/8 {
			checkSplit(t, l, l[i].K)
			if l[i].K < garden.Top {
				checkSplit(t, l, l[i].K+1)
			}
		}
	}
}

// A map that is parted below all of its keys, or above them, is one of the two.
func TestSplitAtTheEnds(t *testing.T) {
	l := garden.Items(10, 20, 30)
	for key, low := range map[int64]int{garden.Low: 0, 9: 0, 10: 0, 11: 1, 20: 1, 21: 2, 29: 2, 30: 2, 31: 3, garden.Top: 3} {
		a, r := garden.Of(l, room(3))
		b, left, right, err := treap.Split(a, r, key)
		if err != api.OK || !slices.Equal(garden.Held(b, left), l[:low]) || !slices.Equal(garden.Held(b, right), l[low:]) {
			t.Errorf("Split %d: %v and %v, %d", key, garden.Held(b, left), garden.Held(b, right), err)
		}
		if low == 0 && left != 0 || low == 3 && right != 0 {
			t.Errorf("Split %d: %d and %d", key, left, right)
		}
	}
}

// pair are two maps of one arena.
func pair(left, right []api.Item) (api.Arena, api.Ref, api.Ref) {
	n := len(left) + len(right)
	a := garden.Ground(min(512, n+wants(n)))
	r := garden.Plant(&a, left)
	s := garden.Plant(&a, right)
	return a, r, s
}

// checkJoin has two maps be put together, and holds the answer against what it must be.
func checkJoin(t *testing.T, left, right []api.Item) {
	t.Helper()
	a, r, s := pair(left, right)
	before := garden.Clone(a)
	b, u, err := treap.Join(a, r, s)
	if err != api.OK {
		t.Fatalf("Join of %v and %v: %d", left, right, err)
	}
	want := slices.Concat(left, right)
	checkMap(t, b, u, want)
	checkMap(t, b, r, left)
	checkMap(t, b, s, right)
	checkGrown(t, before, b, wants(len(want)))
	if !garden.Same(a, before) {
		t.Fatal("Join changed the arena that it was handed")
	}
}

func TestJoin(t *testing.T) {
	for _, l := range contents() {
		for i := 0; i <= len(l); i += 1 + len(l)/8 {
			checkJoin(t, l[:i], l[i:])
		}
		checkJoin(t, l, nil)
		checkJoin(t, nil, l)
	}
	for i := range int64(101) {
		checkJoin(t, upTo(i), garden.From(i+1, 100, 1))
		checkJoin(t, upTo(i), garden.From(1000, 1099, 1))
	}
	checkJoin(t, upTo(200), nil)
	checkJoin(t, nil, upTo(200))
	checkJoin(t, upTo(1), garden.From(2, 200, 1))
	checkJoin(t, upTo(199), garden.From(200, 200, 1))
	checkJoin(t, upTo(100), garden.From(101, 200, 1))
	checkJoin(t, garden.Items(garden.Low), garden.Items(garden.Top))
}

// refuseJoin has two maps be put together that are not.
func refuseJoin(t *testing.T, left, right []api.Item) {
	t.Helper()
	a, r, s := pair(left, right)
	if b, u, err := treap.Join(a, r, s); err != api.ErrRange || u != 0 || !garden.Empty(b) {
		t.Errorf("Join of %v and %v: %d nodes, %d, %d", left, right, len(b.Nodes), u, err)
	}
}

func TestJoinOfKeysThatAreNotBelow(t *testing.T) {
	for _, c := range [][2][]api.Item{
		{upTo(1), upTo(1)},                         // equal
		{upTo(10), upTo(10)},                       // equal
		{upTo(10), garden.From(10, 20, 1)},         // they meet
		{upTo(10), garden.From(9, 20, 1)},          // they overlap
		{upTo(10), garden.From(5, 6, 1)},           // one is within the other one
		{garden.From(5, 6, 1), upTo(10)},           // so, the other way round
		{garden.From(11, 20, 1), upTo(10)},         // above
		{garden.From(10, 20, 1), upTo(10)},         // above, and they meet
		{garden.Items(1, 100), garden.Items(2)},    // the greatest one alone
		{garden.Items(50), garden.Items(49, 1000)}, // the least one alone
		{garden.Items(1, 3, 5), garden.Items(2, 4, 6)},
		{garden.Items(garden.Top), garden.Items(garden.Low)},
		{garden.Items(garden.Top), garden.Items(garden.Top)},
		{garden.Items(garden.Low), garden.Items(garden.Low)},
		{upTo(200), upTo(200)},
		{garden.From(201, 400, 1), upTo(200)},
	} {
		refuseJoin(t, c[0], c[1])
	}
	d := dice.From(63)
	for range 300 {
		low, size := int64(d.UpTo(100)), int64(1+d.UpTo(20))
		refuseJoin(t, garden.From(low, low+size, 1), garden.From(low+size-int64(d.UpTo(30)), low+size+int64(d.UpTo(20)), 1))
	}
}

// A map is not put together with itself, nor with a part of it, but an empty one is.
func TestJoinOfOneMapTwice(t *testing.T) {
	a, r := garden.Of(upTo(10), 30)
	if b, s, err := treap.Join(a, r, r); err != api.ErrRange || s != 0 || !garden.Empty(b) {
		t.Errorf("Join of a map with itself: %d nodes, %d, %d", len(b.Nodes), s, err)
	}
	for i, n := range a.Nodes {
		if n.Kind != api.KTreap {
			continue
		}
		if b, s, err := treap.Join(a, r, garden.At(i, n.Gen)); err != api.ErrRange || s != 0 || !garden.Empty(b) {
			t.Errorf("Join of a map with a part of it: %d nodes, %d, %d", len(b.Nodes), s, err)
		}
		checkPartsJoined(t, a, n)
	}
	if b, s, err := treap.Join(a, 0, 0); err != api.OK || s != 0 || !garden.Same(a, b) {
		t.Errorf("Join of two empty maps: %d nodes, %d, %d", len(b.Nodes), s, err)
	}
}

// checkPartsJoined has a node's kids be put together: the map of all of its keys but its own.
func checkPartsJoined(t *testing.T, a api.Arena, n api.Node) {
	t.Helper()
	b, s, err := treap.Join(a, n.Kids[0], n.Kids[1])
	if err != api.OK {
		t.Fatalf("Join of parts of one map: %d", err)
	}
	checkMap(t, b, s, slices.Concat(garden.Held(a, n.Kids[0]), garden.Held(a, n.Kids[1])))
}

func TestJoinOfMoreThan200Keys(t *testing.T) {
	for _, c := range [][2]int64{{200, 1}, {1, 200}, {100, 101}, {101, 100}, {200, 200}, {199, 2}, {2, 199}} {
		refuseJoin(t, upTo(c[0]), garden.From(1000, 999+c[1], 1))
	}
}
