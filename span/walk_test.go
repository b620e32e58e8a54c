package span_test

import (
	"errors"
	"slices"
	"testing"

	"burgeon/api"
	"burgeon/garden"
	"burgeon/span"
)

// checkWalk has a map be walked by a function that answers false to the key of that number, the first one being 1, if it is handed it.
func checkWalk(t *testing.T, a api.Arena, r api.Ref, l []api.Item, stop int) {
	t.Helper()
	before := garden.Clone(a)
	var got []api.Item
	n, err := span.Walk(a, r, func(item api.Item) bool {
		got = append(got, item)
		return len(got) != stop
	})
	want := l
	if 0 < stop && stop < len(l) {
		want = l[:stop]
	}
	if !slices.Equal(got, want) || n != len(want) || err != api.OK {
		t.Fatalf("Walk of %v, stopped at %d: %v, %d, %d", l, stop, got, n, err)
	}
	if !garden.Same(a, before) {
		t.Fatal("Walk changed the arena that it was handed")
	}
}

// It is stopped at once, at each other key, at the last one, and never.
func TestWalk(t *testing.T) {
	for _, l := range garden.Contents() {
		a, r := garden.Of(l, 7)
		for stop := 0; stop <= len(l)+1; stop += 1 + len(l)/50 {
			checkWalk(t, a, r, l, stop)
		}
		for _, stop := range []int{1, 2, len(l) - 1, len(l), len(l) + 1} {
			checkWalk(t, a, r, l, max(stop, 0))
		}
	}
}

// Walked at each key of 200.
func TestWalkOf200Keys(t *testing.T) {
	l := garden.From(-600, 597, 6)
	a, r := garden.Of(l, 0)
	for stop := range 202 {
		checkWalk(t, a, r, l, stop)
	}
}

// What a function answers hangs on the key that it is handed.
func TestWalkToAKey(t *testing.T) {
	l := garden.Items(1, 5, 9)
	a, r := garden.Of(l, 7)
	for last, want := range []int{1, 1, 2, 2, 2, 2, 3, 3, 3, 3, 3} {
		n, err := span.Walk(a, r, func(item api.Item) bool { return item.K < int64(last) })
		if n != want || err != api.OK {
			t.Errorf("Walk to %d: %d, %d", last, n, err)
		}
	}
}

// A function that is none is handed nothing.
func TestWalkOfNoFunction(t *testing.T) {
	for _, l := range garden.Contents() {
		a, r := garden.Of(l, 7)
		if n, err := span.Walk(a, r, nil); n != 0 || err != api.OK {
			t.Errorf("Walk of %d keys: %d, %d", len(l), n, err)
		}
	}
}

// panics are ways to panic.
func panics() []func() {
	var none []int
	return []func(){
		func() { panic("none") },
		func() { panic(errors.New("none")) },
		func() { panic(nil) },
		func() { none[5]++ },
		func() { var p *int; *p++ },
	}
}

// A panic of a function is none of Walk's: it ends, as if it was answered false.
func TestWalkOfAFunctionThatPanics(t *testing.T) {
	l := garden.From(1, 10, 1)
	a, r := garden.Of(l, 7)
	for i, doPanic := range panics() {
		for _, last := range []int{1, 4, 10} {
			handed := 0
			n, err := span.Walk(a, r, func(api.Item) bool {
				if handed++; handed == last {
					doPanic()
				}
				return true
			})
			if n != last || handed != last || err != api.OK {
				t.Errorf("the way %d to panic, at %d: handed %d, %d, %d", i, last, handed, n, err)
			}
		}
	}
}

// A function that writes in the arena's lists is handed what the map was when the call came.
func TestWalkOfAFunctionThatWrites(t *testing.T) {
	l := garden.From(1, 100, 1)
	for name, write := range map[string]func(n *api.Node, at api.Ref){
		"another key":     func(n *api.Node, _ api.Ref) { n.N, n.V = 5000, 5000 },
		"nothing":         func(n *api.Node, _ api.Ref) { *n = api.Node{} },
		"itself as a kid": func(n *api.Node, at api.Ref) { n.Kids[0], n.Kids[1] = at, at },
		"no kids":         func(n *api.Node, _ api.Ref) { n.Kids = [9]api.Ref{} },
	} {
		a, r := garden.Of(l, 7)
		var got []api.Item
		n, err := span.Walk(a, r, func(item api.Item) bool {
			got = append(got, item)
			for i := range a.Nodes {
				write(&a.Nodes[i], garden.At(i, a.Nodes[i].Gen))
			}
			clear(a.Free)
			return true
		})
		if !slices.Equal(got, l) || n != 100 || err != api.OK {
			t.Errorf("%s is written: %v, %d, %d", name, got, n, err)
		}
	}
}

// A function may have the same map be walked again.
func TestWalkWithinAWalk(t *testing.T) {
	l := garden.From(1, 20, 1)
	a, r := garden.Of(l, 7)
	n, err := span.Walk(a, r, func(item api.Item) bool {
		checkWalk(t, a, r, l, int(item.K))
		checkAll(t, a, r, l, item.K, 15)
		return true
	})
	if n != 20 || err != api.OK {
		t.Errorf("Walk: %d, %d", n, err)
	}
}
