package order_test

import (
	"math"
	"testing"

	"burgeon/api"
	"burgeon/dice"
	"burgeon/garden"
	"burgeon/order"
	"burgeon/treap"
)

// refuse has all calls be done with a reference that is no map's, or of an arena that may not be; places and keys that are none, too.
func refuse(t *testing.T, what string, a api.Arena, r api.Ref) {
	t.Helper()
	before := garden.Clone(a)
	wrong := func(call string, n int, item api.Item, err api.Errno) {
		t.Helper()
		if err != api.ErrArg || n != 0 || item != (api.Item{}) {
			t.Errorf("%s: %s: %d, %v, %d", what, call, n, item, err)
		}
	}
	n, err := order.Size(a, r)
	wrong("Size", n, api.Item{}, err)
	for _, place := range []int{0, 1, 5, -1, 12, 200, math.MaxInt, math.MinInt} {
		item, err := order.At(a, r, place)
		wrong("At", 0, item, err)
	}
	for _, key := range []int64{0, 1, 5, 12, 13, 5000, garden.Low, garden.Top} {
		place, err := order.Rank(a, r, key)
		wrong("Rank", place, api.Item{}, err)
		item, err := order.Floor(a, r, key)
		wrong("Floor", 0, item, err)
		item, err = order.Ceil(a, r, key)
		wrong("Ceil", 0, item, err)
	}
	if !garden.Same(a, before) {
		t.Errorf("%s: a call changed the arena that it was handed", what)
	}
}

func TestNoMaps(t *testing.T) {
	for _, no := range garden.NoMaps() {
		refuse(t, no.What, no.Arena, no.Ref)
	}
}

// Of maps that are changed here and there, all that are none are refused, and all others answered.
func TestMapsThatAreChanged(t *testing.T) {
	d := dice.From(73)
	met := map[bool]int{}
	for range 1500 {
		a, r := garden.Of(garden.From(0, int64(2*d.UpTo(12)), 2), 0)
		for range 1 + d.UpTo(3) {
			a = garden.Spoiled(d, a)
		}
		is := treap.Right(a, r)
		if is {
			checkOrder(t, a, r, garden.Held(a, r), 12)
		} else {
			refuse(t, "a map that is changed", a, r)
		}
		met[is]++
	}
	if met[true] < 200 || met[false] < 200 {
		t.Errorf("%d maps and %d others are too few", met[true], met[false])
	}
}

// The same call with the same arguments answers the same, whatever was called between.
func TestNothingIsKept(t *testing.T) {
	a, r := garden.Of(garden.From(1, 12, 1), 30)
	b, s := garden.Of(garden.From(-600, 597, 6), 7)
	for range 3 {
		checkOrder(t, a, r, garden.From(1, 12, 1), 20)
		refuse(t, "a stale reference", a, r+1<<16)
		checkOrder(t, b, s, garden.From(-600, 597, 6), 20)
		refuse(t, "an arena of nothing", api.Arena{}, 0)
	}
}
