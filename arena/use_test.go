package arena_test

import (
	"slices"
	"testing"

	"burgeon/api"
	"burgeon/arena"
	"burgeon/dice"
)

// node draws a node that may be made, whose references are of a few.
func node(d *dice.Dice, refs []api.Ref) api.Node {
	n := api.Node{Kind: 1 + d.UpTo(100), N: int64(d.UpTo(1000)), V: int64(d.UpTo(1000)), S: int64(d.UpTo(1000)), Pre: d.UpTo(10), Suf: d.UpTo(10)}
	for i := range n.Kids {
		if len(refs) > 0 && d.UpTo(3) == 0 {
			n.Kids[i] = refs[d.UpTo(len(refs))]
		}
	}
	return n
}

// lives is what was made and not dropped, by its reference; and what was dropped.
type lives struct {
	made map[api.Ref]api.Node
	live []api.Ref // in the order in which they were made
	gone []api.Ref
}

// all are references that were made, dropped or not.
func (l *lives) all() []api.Ref { return slices.Concat(l.live, l.gone) }

// reach are the places that are reached, as the chapter tells it, with what waits on a stack.
func (l *lives) reach(roots []api.Ref) []int {
	var out []int
	wait := slices.Clone(roots)
	slices.Reverse(wait)
	for len(wait) > 0 {
		r := wait[len(wait)-1]
		wait = wait[:len(wait)-1]
		n, ok := l.made[r]
		place := int(r%65536) - 1
		if !ok || slices.Contains(out, place) {
			continue
		}
		out = append(out, place)
		for i := range n.Kids {
			wait = append(wait, n.Kids[8-i])
		}
	}
	return out
}

// check holds an arena against what was made and dropped of it: each node is free, or one's, never both.
func (l *lives) check(t *testing.T, a api.Arena) {
	t.Helper()
	if !arena.Right(a) || len(a.Free)+len(l.live) != len(a.Nodes) {
		t.Fatalf("%d free, %d made, of %d, right %v", len(a.Free), len(l.live), len(a.Nodes), arena.Right(a))
	}
	for _, r := range l.live {
		if n, err := arena.Get(a, r); err != api.OK || n != l.made[r] || slices.Contains(a.Free, int(r%65536)-1) {
			t.Fatalf("Get %d: %v, %d", r, n, err)
		}
	}
	for _, r := range l.gone {
		if n, err := arena.Get(a, r); err != api.ErrStale || n != (api.Node{}) {
			t.Fatalf("Get %d, which was dropped: %v, %d", r, n, err)
		}
	}
}

// make has a node be made, if there is one left.
func (l *lives) make(t *testing.T, a api.Arena, n api.Node) api.Arena {
	t.Helper()
	b, r, err := arena.Make(a, n)
	if len(a.Free) == 0 {
		if err != api.ErrFull || r != 0 || !empty(b) {
			t.Fatalf("Make where none is free: %v, %d, %d", b, r, err)
		}
		return a
	}
	place := a.Free[len(a.Free)-1]
	if err != api.OK || r != at(place, a.Nodes[place].Gen) {
		t.Fatalf("Make at %d: %d, %d", place, r, err)
	}
	n.Gen = a.Nodes[place].Gen
	l.made[r] = n
	l.live = append(l.live, r)
	return b
}

// drop has some of what was made be dropped.
func (l *lives) drop(t *testing.T, a api.Arena, d *dice.Dice) api.Arena {
	t.Helper()
	var places []int
	for range d.UpTo(1 + len(l.live)) {
		i := d.UpTo(len(l.live))
		r := l.live[i]
		places = append(places, int(r%65536)-1)
		delete(l.made, r)
		l.live = slices.Delete(l.live, i, i+1)
		l.gone = append(l.gone, r)
	}
	b, err := arena.Drop(a, places...)
	if err != api.OK || !slices.Equal(b.Free, slices.Concat(a.Free, places)) {
		t.Fatalf("Drop %v: %v of %v, %d", places, b.Free, a.Free, err)
	}
	return b
}

// What is got of a reference is what was made until it is dropped, and is stale then, also after its place is used again.
func TestUse(t *testing.T) {
	d := dice.From(4)
	for _, size := range []int{1, 2, 3, 7, 30} {
		a, _ := arena.New(size)
		l := &lives{made: map[api.Ref]api.Node{}}
		for range 300 {
			before := clone(a)
			b := a
			if d.UpTo(3) == 0 {
				b = l.drop(t, a, d)
			} else {
				b = l.make(t, a, node(d, l.all()))
			}
			if !same(a, before) {
				t.Fatal("a call changed the arena that it was handed")
			}
			a = b
			l.check(t, a)
			roots := []api.Ref{0}
			for range d.UpTo(4) {
				if all := l.all(); len(all) > 0 {
					roots = append(roots, all[d.UpTo(len(all))])
				}
			}
			if got, err := arena.Reach(a, roots...); err != api.OK || !slices.Equal(got, l.reach(roots)) {
				t.Fatalf("Reach %v: %v, %d, not %v", roots, got, err, l.reach(roots))
			}
		}
	}
}

// One place is used again 2^20 times: all that while the first reference is stale; behind it the generations begin again.
func TestStaleForManyTimes(t *testing.T) {
	a, _ := arena.New(1)
	a, first, _ := arena.Make(a, full(1))
	for i := range 1 << 20 {
		a, _ = arena.Drop(a, 0)
		if _, err := arena.Get(a, first); err != api.ErrStale {
			t.Fatalf("dropped, %d times used again: %d", i, err)
		}
		var r api.Ref
		a, r, _ = arena.Make(a, full(2))
		if r != at(0, i+1) {
			t.Fatalf("reference %d, %d times used again", r, i+1)
		}
		if _, err := arena.Get(a, first); err != api.ErrStale {
			t.Fatalf("%d times used again: %d", i+1, err)
		}
	}
	a, err := arena.Drop(a, 0)
	if err != api.OK || a.Nodes[0] != (api.Node{}) {
		t.Fatalf("Drop of the greatest generation: %v, %d", a, err)
	}
	if _, r, err := arena.Make(a, full(3)); r != first || err != api.OK {
		t.Errorf("Make behind it: %d, %d", r, err)
	}
}

// roomy is an arena whose lists have room behind them, which is filled.
func roomy() api.Arena {
	a := some(7, 5, 1, 3)
	nodes := append(a.Nodes, full(9), full(9), full(9))
	free := append(a.Free, 70, 71, 72, 73, 74)
	return api.Arena{Nodes: nodes[:7], Free: free[:3]}
}

// No list that is handed in is changed, not behind its length either.
func TestNothingHandedInIsChanged(t *testing.T) {
	a, places, roots := roomy(), []int{0, 2, 80, 81}, []api.Ref{at(0, 0), at(4, 4), 7, 8}
	arena.Right(a)
	arena.Get(a, at(0, 0))
	arena.Make(a, full(1))
	arena.Drop(a, places[:2]...)
	arena.Drop(a)
	arena.Drop(a, 0, 0)
	arena.Reach(a, roots[:2]...)
	want := roomy()
	if !slices.Equal(a.Nodes[:10], want.Nodes[:10]) || !slices.Equal(a.Free[:8], want.Free[:8]) {
		t.Errorf("%v, not %v", a, want)
	}
	if !slices.Equal(places, []int{0, 2, 80, 81}) || !slices.Equal(roots, []api.Ref{at(0, 0), at(4, 4), 7, 8}) {
		t.Errorf("places %v, roots %v", places, roots)
	}
}

// answers are arenas that calls answer of one.
func answers(a api.Arena) []api.Arena {
	made, _, _ := arena.Make(a, full(1))
	dropped, _ := arena.Drop(a, 0, 2)
	all, _ := arena.Drop(a)
	return []api.Arena{made, dropped, all}
}

// What a call answered stays as it is, whatever is done to what it was handed, and to what others answered.
func TestAnswersAreNewMemory(t *testing.T) {
	a := roomy()
	l := answers(a)
	want := answers(roomy())
	for i := range a.Nodes {
		a.Nodes[i] = full(50)
	}
	for i := range a.Free {
		a.Free[i] = 99
	}
	for i := range l {
		if !same(l[i], want[i]) {
			t.Errorf("answer %d is changed by what is done to the arena that was handed in", i)
		}
		l[i].Nodes[6] = full(60)
		l[i].Free[0] = 98
		_ = append(l[i].Free, 97)
	}
	if a.Nodes[6] != full(50) || !slices.Equal(a.Free[:8], []int{99, 99, 99, 70, 71, 72, 73, 74}) {
		t.Errorf("what is done to answers changes what was handed in: %v", a)
	}
}

// Arenas go on from one that is the same for both, and do not meet.
func TestTwoThatGoOn(t *testing.T) {
	a, _ := arena.New(4)
	a, first, _ := arena.Make(a, full(1))
	b, second, _ := arena.Make(a, full(2))
	c, third, _ := arena.Make(a, full(3))
	d, _ := arena.Drop(b, 0)
	e, _ := arena.Drop(c, 1)
	f, fourth, _ := arena.Make(e, full(4))
	if first != at(0, 0) || second != at(1, 0) || third != at(1, 0) || fourth != at(1, 1) {
		t.Fatalf("references %d, %d, %d, %d", first, second, third, fourth)
	}
	for _, w := range []struct {
		a    api.Arena
		free []int
		kind int // of the node at 1
	}{{a, []int{3, 2, 1}, 0}, {b, []int{3, 2}, 2}, {c, []int{3, 2}, 3}, {d, []int{3, 2, 0}, 2}, {e, []int{3, 2, 1}, 0}, {f, []int{3, 2}, 4}} {
		if !slices.Equal(w.a.Free, w.free) || w.a.Nodes[1].Kind != w.kind || !arena.Right(w.a) {
			t.Errorf("%v is free, and at 1 a %d, not %v and %d", w.a.Free, w.a.Nodes[1].Kind, w.free, w.kind)
		}
	}
}

// The example of the chapter.
func TestTheExample(t *testing.T) {
	a, _ := arena.New(2)
	a, r, _ := arena.Make(a, api.Node{Kind: 1})
	a, _ = arena.Drop(a, 0)
	if _, err := arena.Get(a, r); err != api.ErrStale {
		t.Errorf("Get: %d", err)
	}
}
