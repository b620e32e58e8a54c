package order_test

import (
	"math"
	"slices"
	"testing"

	"burgeon/api"
	"burgeon/arena"
	"burgeon/dice"
	"burgeon/garden"
	"burgeon/order"
	"burgeon/treap"
)

// checkSize asks for a map's size.
func checkSize(t *testing.T, a api.Arena, r api.Ref, l []api.Item) {
	t.Helper()
	if n, err := order.Size(a, r); n != len(l) || err != api.OK {
		t.Fatalf("Size of %v: %d, %d", l, n, err)
	}
}

// checkAt asks for the key of a place.
func checkAt(t *testing.T, a api.Arena, r api.Ref, l []api.Item, place int) {
	t.Helper()
	want, wantErr := itemAt(l, place)
	if item, err := order.At(a, r, place); item != want || err != wantErr {
		t.Fatalf("At %d of %v: %v, %d", place, l, item, err)
	}
}

// checkKey asks for a key's place, and for those beside it.
func checkKey(t *testing.T, a api.Arena, r api.Ref, l []api.Item, key int64) {
	t.Helper()
	if place, err := order.Rank(a, r, key); place != placeOf(l, key) || err != api.OK {
		t.Fatalf("Rank %d of %v: %d, %d", key, l, place, err)
	}
	want, wantErr := floorOf(l, key)
	if item, err := order.Floor(a, r, key); item != want || err != wantErr {
		t.Fatalf("Floor %d of %v: %v, %d", key, l, item, err)
	}
	want, wantErr = ceilOf(l, key)
	if item, err := order.Ceil(a, r, key); item != want || err != wantErr {
		t.Fatalf("Ceil %d of %v: %v, %d", key, l, item, err)
	}
}

// checkOrder asks for some keys and places of a map, and sees that the arena stays as it is.
func checkOrder(t *testing.T, a api.Arena, r api.Ref, l []api.Item, n int) {
	t.Helper()
	before := garden.Clone(a)
	checkSize(t, a, r, l)
	for _, place := range garden.Some(placesOf(l), n) {
		checkAt(t, a, r, l, place)
	}
	for _, key := range garden.Some(garden.KeysOf(l), n) {
		checkKey(t, a, r, l, key)
	}
	if !garden.Same(a, before) {
		t.Fatal("a call changed the arena that it was handed")
	}
}

// placesOf are the places of items, and those beside them.
func placesOf(l []api.Item) []int {
	var places []int
	for place := -3; place < len(l)+4; place++ {
		places = append(places, place)
	}
	return places
}

func TestSize(t *testing.T) {
	for n := range int64(201) {
		a, r := garden.Of(garden.From(1, n, 1), 511-int(n))
		checkSize(t, a, r, garden.From(1, n, 1))
	}
	for _, l := range garden.Contents() {
		for _, free := range []int{0, 1, 300} {
			a, r := garden.Of(l, free)
			checkSize(t, a, r, l)
		}
	}
}

func TestAt(t *testing.T) {
	for _, l := range garden.Contents() {
		a, r := garden.Of(l, 7)
		for _, place := range placesOf(l) {
			checkAt(t, a, r, l, place)
		}
	}
}

// Places far beyond are none, though some of them are a map's if they are cut to fewer bits.
func TestAtFarBeyond(t *testing.T) {
	far := []int{-200, -201, 199, 200, 201, 256, 511, 512, 513, 65536, 1 << 30, math.MaxInt32, math.MaxInt32 + 1, math.MinInt32, math.MinInt32 - 1, 1 << 32, 1<<32 + 1, -1 << 32, math.MaxInt, math.MaxInt - 1, math.MinInt, math.MinInt + 1, math.MinInt + 2}
	for _, l := range garden.Contents() {
		a, r := garden.Of(l, 7)
		for _, place := range far {
			checkAt(t, a, r, l, place)
		}
	}
}

func TestKeys(t *testing.T) {
	for _, l := range garden.Contents() {
		a, r := garden.Of(l, 7)
		for _, key := range garden.Some(garden.KeysOf(l), 150) {
			checkKey(t, a, r, l, key)
		}
		for _, key := range garden.EdgeKeys() {
			checkKey(t, a, r, l, key)
		}
	}
}

// All keys of 200, and all between and beside them.
func TestKeysOf200(t *testing.T) {
	l := garden.From(-600, 597, 6)
	a, r := garden.Of(l, 7)
	for key := int64(-610); key < 610; key++ {
		checkKey(t, a, r, l, key)
	}
}

func TestNoKeys(t *testing.T) {
	for size := range 3 {
		a, err := arena.New(1 + size*255)
		if err != api.OK {
			t.Fatalf("New: %d", err)
		}
		checkOrder(t, a, 0, nil, 100)
		for _, key := range garden.EdgeKeys() {
			checkKey(t, a, 0, nil, key)
		}
	}
}

// Values are answered as they are; one that is 0 is no sign of a key that is not there.
func TestValues(t *testing.T) {
	var l []api.Item
	for i, v := range []int64{0, 1, -1, garden.Most + 1, math.MaxInt64, math.MinInt64} {
		l = append(l, api.Item{K: int64(i * 2), V: v})
	}
	a, r := garden.Of(l, 0)
	checkOrder(t, a, r, l, 100)
	a, r = garden.Of([]api.Item{{}}, 0) // key 0, with 0
	checkOrder(t, a, r, []api.Item{{}}, 100)
}

// Each node of a map is the top of one, too, whose places are its own.
func TestEachNode(t *testing.T) {
	a, _ := garden.Of(garden.From(-600, 597, 6), 7)
	for i, n := range a.Nodes {
		if n.Kind == api.KTreap {
			r := garden.At(i, n.Gen)
			checkOrder(t, a, r, garden.Held(a, r), 6)
		}
	}
}

// One arena has many maps, and nodes of other kinds between.
func TestMapsBesideOthers(t *testing.T) {
	a := garden.Ground(300)
	var refs []api.Ref
	for i := range int64(5) {
		r := garden.Plant(&a, garden.From(10*i, 10*i+40, 2))
		refs = append(refs, r)
		garden.Write(&a, api.Node{Kind: int(2 + i), N: i, S: 7, Pre: 9, Suf: 9, Kids: [9]api.Ref{8: r}})
	}
	for i, r := range refs {
		checkOrder(t, a, r, garden.From(10*int64(i), 10*int64(i)+40, 2), 100)
	}
}

// A map that calls made is asked as one that was made by hand, and an older one as before.
func TestMapsOfCalls(t *testing.T) {
	type kept struct {
		r api.Ref
		l []api.Item
	}
	d := dice.From(72)
	a, _ := arena.New(512)
	all := []kept{{}}
	for range 60 {
		m, key := all[len(all)-1], int64(d.UpTo(40))
		l := slices.DeleteFunc(slices.Clone(m.l), func(i api.Item) bool { return i.K == key })
		b, r, err := treap.Del(a, m.r, key)
		if err == api.ErrNone {
			b, r, err = treap.Put(a, m.r, key, key*3)
			place := placeOf(l, key)
			l = slices.Insert(l, place, api.Item{K: key, V: key * 3})
		}
		if err != api.OK {
			t.Fatalf("a key is put or deleted: %d", err)
		}
		a, all = b, append(all, kept{r, l})
	}
	for _, m := range all {
		checkOrder(t, a, m.r, m.l, 40)
	}
}

// The example of the chapter.
func TestTheExample(t *testing.T) {
	a, r := garden.Of([]api.Item{{K: 1, V: 10}, {K: 5, V: 50}, {K: 9, V: 90}}, 3)
	if place, err := order.Rank(a, r, 6); place != 2 || err != api.OK {
		t.Errorf("Rank: %d, %d", place, err)
	}
	if item, err := order.Floor(a, r, 6); item != (api.Item{K: 5, V: 50}) || err != api.OK {
		t.Errorf("Floor: %v, %d", item, err)
	}
	if item, err := order.Ceil(a, r, 6); item != (api.Item{K: 9, V: 90}) || err != api.OK {
		t.Errorf("Ceil: %v, %d", item, err)
	}
}
