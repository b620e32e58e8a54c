package span_test

import (
	"slices"
	"testing"

	"burgeon/api"
	"burgeon/arena"
	"burgeon/garden"
	"burgeon/span"
	"burgeon/treap"
)

func TestOpen(t *testing.T) {
	for _, l := range garden.Contents() {
		a, r := garden.Of(l, 7)
		before := garden.Clone(a)
		for _, low := range garden.EdgeKeys() {
			for _, high := range garden.EdgeKeys() {
				c, err := span.Open(a, r, low, high)
				if (c != api.Cursor{Map: r, Next: low, Last: high}) || err != api.OK {
					t.Fatalf("Open of %d to %d: %v, %d", low, high, c, err)
				}
			}
		}
		if !garden.Same(a, before) {
			t.Fatal("Open changed the arena that it was handed")
		}
	}
}

// stepOf is what a step answers of a cursor that is not Done, word by word as the chapter says it.
func stepOf(l []api.Item, c api.Cursor) (api.Cursor, api.Item) {
	for _, item := range l {
		if item.K < c.Next {
			continue
		}
		if item.K > c.Last {
			break
		}
		if item.K == c.Last {
			c.Done = true
		} else {
			c.Next = item.K + 1
		}
		return c, item
	}
	c.Done = true
	return c, api.Item{}
}

// checkStep has one step be taken.
func checkStep(t *testing.T, a api.Arena, l []api.Item, c api.Cursor) api.Cursor {
	t.Helper()
	want, wantItem := stepOf(l, c)
	got, item, err := span.Step(a, c)
	if got != want || item != wantItem || err != api.OK {
		t.Fatalf("Step of %v of %v: %v, %v, %d", c, l, got, item, err)
	}
	return got
}

// checkDone sees that a cursor at its end has no step.
func checkDone(t *testing.T, a api.Arena, c api.Cursor) {
	t.Helper()
	if got, item, err := span.Step(a, c); got != (api.Cursor{}) || item != (api.Item{}) || err != api.ErrNone {
		t.Fatalf("Step of %v: %v, %v, %d", c, got, item, err)
	}
}

// Cursors that are not Done, wherever they are: at keys, beside them and between, at Last, and above it.
func TestStep(t *testing.T) {
	for _, l := range garden.Contents() {
		a, r := garden.Of(l, 7)
		before := garden.Clone(a)
		keys := slices.Concat(garden.Some(garden.KeysOf(l), 20), garden.EdgeKeys())
		for _, next := range keys {
			for _, last := range keys {
				checkStep(t, a, l, api.Cursor{Map: r, Next: next, Last: last})
			}
		}
		if !garden.Same(a, before) {
			t.Fatal("Step changed the arena that it was handed")
		}
	}
}

// A key that is Last is the end, also the greatest number, behind which there is none; one that is not, is not.
func TestStepToLast(t *testing.T) {
	a, r := garden.Of(garden.Items(5, garden.Top), 7)
	five, top := api.Item{K: 5, V: 1005}, garden.Items(garden.Top)[0]
	for _, c := range []struct {
		next, last int64
		item       api.Item
		behind     api.Cursor
	}{
		{5, 5, five, api.Cursor{Map: r, Next: 5, Last: 5, Done: true}},
		{4, 5, five, api.Cursor{Map: r, Next: 4, Last: 5, Done: true}},
		{4, 6, five, api.Cursor{Map: r, Next: 6, Last: 6}},
		{6, 6, api.Item{}, api.Cursor{Map: r, Next: 6, Last: 6, Done: true}},
		{4, 4, api.Item{}, api.Cursor{Map: r, Next: 4, Last: 4, Done: true}},
		{5, 4, api.Item{}, api.Cursor{Map: r, Next: 5, Last: 4, Done: true}},
		{6, 5, api.Item{}, api.Cursor{Map: r, Next: 6, Last: 5, Done: true}},
		{6, garden.Top, top, api.Cursor{Map: r, Next: 6, Last: garden.Top, Done: true}},
		{garden.Top, garden.Top, top, api.Cursor{Map: r, Next: garden.Top, Last: garden.Top, Done: true}},
		{garden.Top, garden.Low, api.Item{}, api.Cursor{Map: r, Next: garden.Top, Last: garden.Low, Done: true}},
		{6, garden.Top - 1, api.Item{}, api.Cursor{Map: r, Next: 6, Last: garden.Top - 1, Done: true}},
	} {
		got, item, err := span.Step(a, api.Cursor{Map: r, Next: c.next, Last: c.last})
		if got != c.behind || item != c.item || err != api.OK {
			t.Errorf("from %d to %d: %v, %v, %d", c.next, c.last, got, item, err)
		}
	}
}

// Cursors that are Done, though there are keys from Next to Last.
func TestStepOfADoneCursor(t *testing.T) {
	for _, l := range garden.Contents() {
		a, r := garden.Of(l, 7)
		for _, next := range garden.EdgeKeys() {
			for _, last := range garden.EdgeKeys() {
				checkDone(t, a, api.Cursor{Map: r, Next: next, Last: last, Done: true})
			}
		}
	}
}

// checkSteps holds a cursor's steps against All: its keys, one by one, then one without a key, unless the last one is Last's.
func checkSteps(t *testing.T, a api.Arena, r api.Ref, l []api.Item, low, high int64) {
	t.Helper()
	c, err := span.Open(a, r, low, high)
	if err != api.OK {
		t.Fatalf("Open: %d", err)
	}
	want := within(l, low, high)
	for i := range want {
		if c.Done {
			t.Fatalf("%d to %d: Done after %d of %v", low, high, i, want)
		}
		next, item, err := span.Step(a, c)
		if item != want[i] || err != api.OK {
			t.Fatalf("%d to %d: the step %d of %v is %v, %d", low, high, i, want, item, err)
		}
		c = next
	}
	if len(want) > 0 && want[len(want)-1].K == high {
		checkDone(t, a, c)
		return
	}
	if c.Done {
		t.Fatalf("%d to %d: Done at the last key of %v", low, high, want)
	}
	next, item, err := span.Step(a, c)
	if item != (api.Item{}) || !next.Done || next.Next != c.Next || err != api.OK {
		t.Fatalf("%d to %d: the step behind %v is %v, %v, %d", low, high, want, next, item, err)
	}
	checkDone(t, a, next)
	checkDone(t, a, next) // and once again
}

func TestSteps(t *testing.T) {
	for _, l := range garden.Contents() {
		a, r := garden.Of(l, 7)
		bounds := garden.Some(garden.KeysOf(l), 4)
		for _, low := range bounds {
			for _, high := range bounds {
				checkSteps(t, a, r, l, low, high)
			}
		}
	}
}

func TestStepsOfFewKeys(t *testing.T) {
	for _, l := range [][]api.Item{nil, garden.Items(5), garden.Items(1, 5, 9), garden.From(2, 12, 2), garden.From(3, 7, 1)} {
		a, r := garden.Of(l, 0)
		for low := int64(-1); low < 15; low++ {
			for high := int64(-1); high < 15; high++ {
				checkSteps(t, a, r, l, low, high)
			}
		}
	}
}

// A step is of its cursor alone: an older one is taken again as before, and two go on side by side.
func TestCursorsSideBySide(t *testing.T) {
	l := garden.From(1, 20, 1)
	a, r := garden.Of(l, 7)
	slow, _ := span.Open(a, r, 1, 20)
	fast := slow
	for i := range 10 {
		for range 2 {
			fast = checkStep(t, a, l, fast)
		}
		before := slow
		slow = checkStep(t, a, l, slow)
		if again := checkStep(t, a, l, before); again != slow || slow.Next != int64(i)+2 {
			t.Fatalf("the step %d: %v, and once more %v", i, slow, again)
		}
	}
	checkDone(t, a, fast)
}

// meanwhile has a map go on by one call, and drops what neither it nor the cursor's map reaches.
func meanwhile(t *testing.T, a api.Arena, r, kept api.Ref, i int) (api.Arena, api.Ref) {
	t.Helper()
	key := int64(i*7%30 + 1)
	b, next, err := treap.Del(a, r, key)
	if err == api.ErrNone {
		b, next, err = treap.Put(a, r, key, -key)
	}
	if err != api.OK {
		t.Fatalf("a key is put or deleted: %d", err)
	}
	reached, err := arena.Reach(b, next, kept)
	if err != api.OK {
		t.Fatalf("Reach: %d", err)
	}
	for place, n := range b.Nodes {
		if n.Kind == api.KTreap && !slices.Contains(reached, place) {
			b, err = arena.Drop(b, place)
		}
	}
	if err != api.OK {
		t.Fatalf("Drop: %d", err)
	}
	return b, next
}

// However the map goes on meanwhile, a cursor's steps are the keys of the map that it was opened of, and All's, too.
func TestStepsMeanwhile(t *testing.T) {
	l := garden.From(1, 30, 1)
	a, r := garden.Of(l, 100)
	c, err := span.Open(a, r, 4, 27)
	if err != api.OK {
		t.Fatalf("Open: %d", err)
	}
	now, calls := r, 0
	for _, want := range within(l, 4, 27) {
		for range 5 {
			a, now = meanwhile(t, a, now, r, calls)
			calls++
		}
		next, item, err := span.Step(a, c)
		if item != want || err != api.OK {
			t.Fatalf("a step to %v: %v, %d", want, item, err)
		}
		c = next
		checkAll(t, a, r, l, 4, 27)
	}
	checkDone(t, a, c)
	if slices.Equal(garden.Held(a, now), l) {
		t.Error("the map did not go on")
	}
}

// When the last map that has its nodes is gone, a cursor is of no map any more.
func TestStepOfAMapThatIsDropped(t *testing.T) {
	l := garden.From(1, 30, 1)
	a, r := garden.Of(l, 100)
	c, _ := span.Open(a, r, 4, 27)
	c = checkStep(t, a, l, c)
	b, now := meanwhile(t, a, r, 0, 1)
	if got, item, err := span.Step(b, c); got != (api.Cursor{}) || item != (api.Item{}) || err != api.ErrArg {
		t.Errorf("Step: %v, %v, %d", got, item, err)
	}
	c.Map = now
	checkStep(t, b, garden.Held(b, now), c)
}
