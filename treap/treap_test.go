package treap_test

import (
	"math"
	"slices"
	"testing"

	"burgeon/api"
	"burgeon/arena"
	"burgeon/dice"
	"burgeon/garden"
	"burgeon/treap"
)

// contents are what maps hold: from nothing to 200 keys, at the edges and beyond what is put.
func contents() [][]api.Item {
	l := [][]api.Item{
		nil,
		garden.Items(0), garden.Items(5), garden.Items(-garden.Most), garden.Items(garden.Most), garden.Items(garden.Low), garden.Items(garden.Top),
		garden.Items(1, 5, 9), garden.Items(-7, 3, 0, 4, 5, -6, 2), garden.Items(-garden.Most, 0, garden.Most),
		garden.Items(garden.Low, garden.Top), garden.Items(garden.Low, garden.Low+1, -1, 0, 1, garden.Top-1, garden.Top),
		garden.Items(-garden.Most-1, -garden.Most, garden.Most, garden.Most+1),
		upTo(2), upTo(10), upTo(199), upTo(200), garden.From(-100, 99, 1),
		garden.Items(row(200, false)...), garden.Items(row(199, true)...),
	}
	d := dice.From(61)
	for range 4 {
		keys := map[int64]int{}
		for range 1 + d.UpTo(200) {
			keys[int64(d.UpTo(garden.Most))-garden.Most/2]++
		}
		var some []int64
		for key := range keys {
			some = append(some, key)
		}
		l = append(l, garden.Items(some...))
	}
	return l
}

func TestRight(t *testing.T) {
	for _, l := range contents() {
		for _, free := range []int{0, 1, 300} {
			if a, r := garden.Of(l, free); !treap.Right(a, r) {
				t.Errorf("the map of %v is none", l)
			}
		}
	}
}

// A map may be as deep as it has keys.
func TestRightOfRows(t *testing.T) {
	for side := range 2 {
		a := garden.Ground(300)
		if r := hung(&a, row(200, side == 0), slices.Repeat([]int{side}, 200)); !treap.Right(a, r) {
			t.Errorf("a row on the side %d is no map's", side)
		}
	}
}

// Each node of a map is itself the top of one.
func TestRightOfEachNode(t *testing.T) {
	a, _ := garden.Of(upTo(200), 50)
	for i, n := range a.Nodes {
		if got := treap.Right(a, garden.At(i, n.Gen)); got != (n.Kind == api.KTreap) {
			t.Errorf("the node %v: %v", n, got)
		}
	}
}

func TestGet(t *testing.T) {
	for _, l := range contents() {
		a, r := garden.Of(l, 7)
		before := garden.Clone(a)
		checkMap(t, a, r, l)
		for i := range l {
			checkGot(t, a, r, l, i)
		}
		for _, key := range []int64{0, 1, -1, 6, garden.Most, -garden.Most, garden.Most + 1, -garden.Most - 1, garden.Top, garden.Low} {
			if !garden.Has(l, key) {
				checkNone(t, a, r, key)
			}
		}
		if !garden.Same(a, before) {
			t.Fatal("Get changed the arena that it was handed")
		}
	}
}

// A value may be whatever number.
func TestGetOfValues(t *testing.T) {
	var l []api.Item
	for i, v := range []int64{0, 1, -1, garden.Most + 1, math.MaxInt64, math.MinInt64} {
		l = append(l, api.Item{K: int64(i), V: v})
	}
	a, r := garden.Of(l, 0)
	checkMap(t, a, r, l)
}

// One arena has many maps, and nodes of other kinds between.
func TestMapsBesideOthers(t *testing.T) {
	a := garden.Ground(300)
	var refs []api.Ref
	for i := range int64(5) {
		r := garden.Plant(&a, garden.From(10*i, 10*i+20, 1))
		refs = append(refs, r)
		garden.Write(&a, api.Node{Kind: int(2 + i), N: i, S: 7, Pre: 9, Suf: 9, Kids: [9]api.Ref{8: r}})
	}
	for i, r := range refs {
		checkMap(t, a, r, garden.From(10*int64(i), 10*int64(i)+20, 1))
	}
}

// changed is an arena with one node changed at random, or none.
func changed(d *dice.Dice, a api.Arena) api.Arena {
	a = garden.Clone(a)
	i := d.UpTo(len(a.Nodes))
	n := &a.Nodes[i]
	other := d.UpTo(len(a.Nodes))
	ref := garden.At(other, a.Nodes[other].Gen)
	if d.UpTo(4) == 0 {
		ref = 0
	}
	switch d.UpTo(8) {
	case 0:
		n.N += int64(d.UpTo(7)) - 3
	case 1:
		n.V = int64(d.UpTo(1000))
	case 2:
		n.S += int64(d.UpTo(5)) - 2
	case 3:
		n.Kids[d.UpTo(2)] = ref
	case 4:
		n.Kids[0], n.Kids[1] = n.Kids[1], n.Kids[0]
	case 5:
		n.N, a.Nodes[other].N = a.Nodes[other].N, n.N
	case 6:
		n.Gen ^= d.UpTo(2)
	case 7:
		n.Kids[d.UpTo(9)] = ref
	}
	return a
}

// Right and the chapter's words agree on maps that are changed here and there.
func TestRightIsAsTold(t *testing.T) {
	d := dice.From(62)
	met := map[bool]int{}
	for range 6000 {
		n := int64(1 + d.UpTo(12))
		a, r := garden.Of(upTo(n), 0)
		for range 1 + d.UpTo(3) {
			a = changed(d, a)
		}
		if !arena.Right(a) {
			t.Fatal("the arena may not be")
		}
		got, want := treap.Right(a, r), garden.IsMap(a, r)
		if got != want {
			t.Fatalf("Right %d of %v: %v", r, a, got)
		}
		met[got]++
	}
	if met[true] < 500 || met[false] < 500 {
		t.Errorf("%d maps and %d others are too few", met[true], met[false])
	}
}

// The example of the chapter.
func TestTheExample(t *testing.T) {
	a, _ := arena.New(2)
	a, first, err := treap.Put(a, 0, 5, 7)
	b, second, errb := treap.Put(a, first, 5, 8)
	if err != api.OK || errb != api.OK {
		t.Fatalf("Put: %d, %d", err, errb)
	}
	if v, err := treap.Get(b, second, 5); v != 8 || err != api.OK {
		t.Errorf("Get: %d, %d", v, err)
	}
	if v, err := treap.Get(b, first, 5); v != 7 || err != api.OK {
		t.Errorf("Get of the first reference: %d, %d", v, err)
	}
	if !slices.Equal(garden.Held(a, first), []api.Item{{K: 5, V: 7}}) {
		t.Errorf("the first arena holds %v", garden.Held(a, first))
	}
}
