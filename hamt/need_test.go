package hamt_test

import (
	"slices"
	"testing"

	"burgeon/api"
	"burgeon/arena"
	"burgeon/garden"
	"burgeon/hamt"
)

// try does a call with a table beside which so many nodes are free, and tells how many were made; -1, if it found none free.
func (c call) try(t *testing.T, l []api.Item, free int) int {
	t.Helper()
	a, r := garden.TableOf(l, free)
	before := garden.Clone(a)
	b, s, err := c.do(a, r)
	if !garden.Same(a, before) {
		t.Fatalf("%v changed the arena that it was handed", c)
	}
	if err == api.ErrFull {
		if !garden.Empty(b) || s != 0 {
			t.Fatalf("%v where none is free: %d nodes, %d", c, len(b.Nodes), s)
		}
		return -1
	}
	if err != api.OK {
		t.Fatalf("%v of %v: %d", c, l, err)
	}
	want, _ := c.of(l)
	c.checkAnswer(t, a, b, s, want)
	checkTable(t, b, r, l)
	return free - len(b.Free)
}

// calls are calls that tell no error where nodes are free.
func calls(l []api.Item) []call {
	var out []call
	for _, key := range slices.Concat([]int64{-1, 0, 7, 20000, garden.Most}, garden.OneHash(), garden.Some(garden.KeysOf(l), 10)) {
		for _, c := range []call{putting(key), deleting(key)} {
			if _, err := c.of(l); err == api.OK {
				out = append(out, c)
			}
		}
	}
	return out
}

// smallContents are what tables hold in whose arenas all numbers of free nodes are tried.
func smallContents() [][]api.Item {
	keys := garden.OneHash()
	l := [][]api.Item{nil, garden.Items(5), garden.Items(1, 5, 9), garden.Items(1, 2, 3, 5, 8, garden.Sharing(5, 4)), upTo(12)}
	for _, digits := range []int{0, 1, 5, 9} {
		l = append(l, garden.Items(5, garden.Sharing(5, digits)))
	}
	return append(l, garden.Items(keys[:2]...), garden.Items(keys[:3]...), garden.Items(keys[:9]...), garden.Items(append(keys[1:4], 1, 2)...))
}

// With just its need free, or more, a call is done. With fewer it is done if they are as many as it makes, and else tells that none is free; then all is as it was.
func TestNeed(t *testing.T) {
	for _, l := range smallContents() {
		for _, c := range calls(l) {
			want, _ := c.of(l)
			need := needOf(want)
			makes := c.try(t, l, need)
			if makes < 0 || makes > need {
				t.Fatalf("%v makes %d nodes of %d", c, makes, need)
			}
			for free := range need + 3 {
				got := c.try(t, l, free)
				if free < makes && got != -1 || free >= makes && got != makes {
					t.Fatalf("%v of %v, with %d free: %d are made, not %d", c, l, free, got, makes)
				}
			}
		}
	}
}

func TestNeedOfMany(t *testing.T) {
	for _, l := range [][]api.Item{upTo(60), upTo(90), garden.From(-600, -6, 7), garden.Crowd()[:30], garden.Items(slices.Concat(garden.OneHash()[:9], garden.TopHash()[:9])...)} {
		for _, c := range calls(l) {
			want, _ := c.of(l)
			need := needOf(want)
			makes := c.try(t, l, need)
			if makes < 0 || makes > need {
				t.Fatalf("%v makes %d nodes of %d", c, makes, need)
			}
			for _, free := range []int{0, makes / 2, makes - 1, makes, makes + 1} {
				if free < 0 {
					continue
				}
				if got := c.try(t, l, free); free < makes && got != -1 || free >= makes && got != makes {
					t.Fatalf("%v with %d free: %d are made, not %d", c, free, got, makes)
				}
			}
		}
	}
}

// Where no node is free, a key that is put finds none, whether it is there or not; what is not done for another cause tells that.
func TestWhereNoneIsFree(t *testing.T) {
	full := func(c call, l []api.Item, want api.Errno) {
		t.Helper()
		a, r := garden.TableOf(l, 0)
		if b, s, err := c.do(a, r); err != want || s != 0 || !garden.Empty(b) {
			t.Errorf("%v: %d nodes, %d, %d, not %d", c, len(b.Nodes), s, err, want)
		}
	}
	for _, key := range farKeys {
		full(putting(key), upTo(20), api.ErrRange)
		full(putting(key), nil, api.ErrRange)
		full(deleting(key), upTo(20), api.ErrNone)
	}
	full(putting(5), nil, api.ErrFull)
	full(putting(5), garden.Items(6), api.ErrFull)
	full(putting(201), upTo(200), api.ErrRange)
	full(putting(201), upTo(199), api.ErrFull)
	full(deleting(201), upTo(200), api.ErrNone)
	full(deleting(5), nil, api.ErrNone)
	full(putting(garden.OneHash()[9]), allOf(garden.OneHash()), api.ErrRange)
	full(putting(garden.OneHash()[9]), garden.Items(garden.OneHash()[:8]...), api.ErrFull)
	full(deleting(garden.OneHash()[9]), allOf(garden.OneHash()), api.ErrNone)
	for _, key := range garden.OneHash()[:9] {
		full(putting(key), allOf(garden.OneHash()), api.ErrFull)
		full(deleting(key), allOf(garden.OneHash()), api.ErrFull)
	}
	for key := int64(1); key <= 200; key++ {
		full(putting(key), upTo(200), api.ErrFull)
	}
}

// An arena of four nodes has three keys that part at the first level: a fourth one finds no free node, and the three are read.
func TestFourNodes(t *testing.T) {
	a, _ := arena.New(4)
	l := garden.Items(5, garden.Sharing(5, 0))
	for key := int64(0); len(l) < 3; key++ {
		if garden.Digit(key, 0) != garden.Digit(l[0].K, 0) && garden.Digit(key, 0) != garden.Digit(l[1].K, 0) {
			l = garden.With(l, key, 1)
		}
	}
	r := garden.PlantTable(&a, l)
	for _, c := range []call{putting(100), putting(5), putting(garden.Most)} {
		if b, s, err := c.do(a, r); err != api.ErrFull || s != 0 || !garden.Empty(b) {
			t.Errorf("%v: %d nodes, %d, %d", c, len(b.Nodes), s, err)
		}
	}
	checkTable(t, a, r, l)
}

// The chapter's examples.
func TestTheExamples(t *testing.T) {
	a, _ := arena.New(60)
	a, r, err := hamt.Put(a, 0, 5, 7)
	a, s, errDel := hamt.Del(a, r, 5)
	if v, errGet := hamt.Get(a, s, 5); err != api.OK || errDel != api.OK || v != 0 || errGet != api.ErrNone {
		t.Errorf("%d, %d; Get: %d, %d", err, errDel, v, errGet)
	}
	a, _ = arena.New(200)
	r = 0
	for key := range int64(12) {
		if a, r, err = hamt.Put(a, r, key, 10*key); err != api.OK {
			t.Fatalf("Put %d: %d", key, err)
		}
	}
	for key := range int64(12) {
		if key == 5 {
			continue
		}
		if a, r, err = hamt.Del(a, r, key); err != api.OK {
			t.Fatalf("Del %d: %d", key, err)
		}
	}
	if v, err := hamt.Get(a, r, 5); v != 50 || err != api.OK {
		t.Errorf("Get: %d, %d", v, err)
	}
	checkTable(t, a, r, []api.Item{{K: 5, V: 50}})
}
