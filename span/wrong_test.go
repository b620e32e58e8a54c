package span_test

import (
	"testing"

	"burgeon/api"
	"burgeon/dice"
	"burgeon/garden"
	"burgeon/span"
	"burgeon/treap"
)

// refuse has all calls be done with a reference that is no map's, or of an arena that may not be; cursors that are Done, bounds the other way round, and no function, too.
func refuse(t *testing.T, what string, a api.Arena, r api.Ref) {
	t.Helper()
	before := garden.Clone(a)
	keys := []int64{0, 5, 13, 5000, garden.Low, garden.Top}
	for i, low := range keys {
		high := keys[len(keys)-1-i]
		if l, err := span.All(a, r, low, high); len(l) != 0 || err != api.ErrArg {
			t.Errorf("%s: All: %v, %d", what, l, err)
		}
		if c, err := span.Open(a, r, low, high); c != (api.Cursor{}) || err != api.ErrArg {
			t.Errorf("%s: Open: %v, %d", what, c, err)
		}
		for _, done := range []bool{false, true} {
			c, item, err := span.Step(a, api.Cursor{Map: r, Next: low, Last: high, Done: done})
			if c != (api.Cursor{}) || item != (api.Item{}) || err != api.ErrArg {
				t.Errorf("%s: Step: %v, %v, %d", what, c, item, err)
			}
		}
	}
	handed := 0
	n, err := span.Walk(a, r, func(api.Item) bool { handed++; return true })
	if n != 0 || handed != 0 || err != api.ErrArg {
		t.Errorf("%s: Walk: %d were handed on, %d, %d", what, handed, n, err)
	}
	if n, err := span.Walk(a, r, nil); n != 0 || err != api.ErrArg {
		t.Errorf("%s: Walk of no function: %d, %d", what, n, err)
	}
	if !garden.Same(a, before) {
		t.Errorf("%s: a call changed the arena that it was handed", what)
	}
}

func TestNoMaps(t *testing.T) {
	for _, no := range garden.NoMaps() {
		refuse(t, no.What, no.Arena, no.Ref)
	}
}

// checkSpan asks for all keys of a map, in all ways.
func checkSpan(t *testing.T, a api.Arena, r api.Ref, l []api.Item) {
	t.Helper()
	checkBounds(t, a, r, l, []int64{garden.Low, 3, 10, garden.Top})
	checkWalk(t, a, r, l, 0)
	checkWalk(t, a, r, l, 2)
	checkSteps(t, a, r, l, 3, garden.Top)
}

// Of maps that are changed here and there, all that are none are refused, and all others answered.
func TestMapsThatAreChanged(t *testing.T) {
	d := dice.From(83)
	met := map[bool]int{}
	for range 1000 {
		a, r := garden.Of(garden.From(0, int64(2*d.UpTo(12)), 2), 0)
		for range 1 + d.UpTo(3) {
			a = garden.Spoiled(d, a)
		}
		is := treap.Right(a, r)
		if is {
			checkSpan(t, a, r, garden.Held(a, r))
		} else {
			refuse(t, "a map that is changed", a, r)
		}
		met[is]++
	}
	if met[true] < 200 || met[false] < 200 {
		t.Errorf("%d maps and %d others are too few", met[true], met[false])
	}
}

// The same call with the same arguments answers the same, whatever was called between.
func TestNothingIsKept(t *testing.T) {
	a, r := garden.Of(garden.From(1, 12, 1), 30)
	b, s := garden.Of(garden.From(-600, 597, 6), 7)
	for range 3 {
		checkSpan(t, a, r, garden.From(1, 12, 1))
		refuse(t, "a stale reference", a, r+1<<16)
		checkSpan(t, b, s, garden.From(-600, 597, 6))
		refuse(t, "an arena of nothing", api.Arena{}, 0)
	}
}
