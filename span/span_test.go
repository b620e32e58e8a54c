package span_test

import (
	"math"
	"slices"
	"testing"

	"burgeon/api"
	"burgeon/arena"
	"burgeon/dice"
	"burgeon/garden"
	"burgeon/span"
	"burgeon/treap"
)

// within are the items whose keys are not below low nor above high.
func within(l []api.Item, low, high int64) []api.Item {
	return slices.DeleteFunc(slices.Clone(l), func(i api.Item) bool { return i.K < low || i.K > high })
}

// checkAll asks for the keys from one to another one.
func checkAll(t *testing.T, a api.Arena, r api.Ref, l []api.Item, low, high int64) {
	t.Helper()
	if got, err := span.All(a, r, low, high); !slices.Equal(got, within(l, low, high)) || err != api.OK {
		t.Fatalf("All of %d to %d of %v: %v, %d", low, high, l, got, err)
	}
}

// checkBounds asks for the keys from each of some bounds to each of them, and sees that the arena stays as it is.
func checkBounds(t *testing.T, a api.Arena, r api.Ref, l []api.Item, bounds []int64) {
	t.Helper()
	before := garden.Clone(a)
	for _, low := range bounds {
		for _, high := range bounds {
			checkAll(t, a, r, l, low, high)
		}
	}
	if !garden.Same(a, before) {
		t.Fatal("All changed the arena that it was handed")
	}
}

// Bounds are keys, beside keys, between them, and at the edges; the lower one is below, equal to and above the upper one.
func TestAll(t *testing.T) {
	for _, l := range garden.Contents() {
		a, r := garden.Of(l, 7)
		checkBounds(t, a, r, l, garden.Some(garden.KeysOf(l), 20))
		checkBounds(t, a, r, l, garden.EdgeKeys())
	}
}

func TestAllOfFewKeys(t *testing.T) {
	for _, l := range [][]api.Item{garden.Items(5), garden.Items(1, 5, 9), garden.From(2, 12, 2)} {
		a, r := garden.Of(l, 0)
		var bounds []int64
		for key := int64(-1); key < 15; key++ {
			bounds = append(bounds, key)
		}
		checkBounds(t, a, r, l, append(bounds, garden.Low, garden.Top))
	}
}

// Each key of 200 is a bound, and each number beside it.
func TestAllOf200Keys(t *testing.T) {
	l := garden.From(-600, 597, 6)
	a, r := garden.Of(l, 7)
	for _, key := range garden.KeysOf(l) {
		checkAll(t, a, r, l, key, key)
		checkAll(t, a, r, l, key, garden.Top)
		checkAll(t, a, r, l, garden.Low, key)
		checkAll(t, a, r, l, key, min(key, garden.Most)+20)
	}
}

func TestAllOfNoKeys(t *testing.T) {
	for _, size := range []int{1, 2, 512} {
		a, err := arena.New(size)
		if err != api.OK {
			t.Fatalf("New: %d", err)
		}
		checkBounds(t, a, 0, nil, garden.EdgeKeys())
	}
}

// Values are answered as they are.
func TestValues(t *testing.T) {
	var l []api.Item
	for i, v := range []int64{0, 1, -1, 1<<30 + 1, math.MaxInt64, math.MinInt64} {
		l = append(l, api.Item{K: int64(i * 2), V: v})
	}
	a, r := garden.Of(l, 0)
	checkBounds(t, a, r, l, []int64{-1, 0, 1, 4, 10, 11})
	checkWalk(t, a, r, l, 3)
	checkSteps(t, a, r, l, 0, 10)
}

// Each node of a map is the top of one, too.
func TestEachNode(t *testing.T) {
	a, _ := garden.Of(garden.From(-600, 597, 6), 7)
	for i, n := range a.Nodes {
		if n.Kind != api.KTreap {
			continue
		}
		r := garden.At(i, n.Gen)
		l := garden.Held(a, r)
		checkBounds(t, a, r, l, garden.Some(garden.KeysOf(l), 3))
		checkWalk(t, a, r, l, len(l))
		checkSteps(t, a, r, l, -300, 300)
	}
}

// One arena has many maps, and nodes of other kinds between.
func TestMapsBesideOthers(t *testing.T) {
	a := garden.Ground(300)
	var refs []api.Ref
	for i := range int64(5) {
		r := garden.Plant(&a, garden.From(10*i, 10*i+40, 2))
		refs = append(refs, r)
		garden.Write(&a, api.Node{Kind: int(2 + i), N: i, S: 7, Pre: 9, Suf: 9, Kids: [9]api.Ref{8: r}})
	}
	for i, r := range refs {
		l := garden.From(10*int64(i), 10*int64(i)+40, 2)
		checkBounds(t, a, r, l, garden.Some(garden.KeysOf(l), 30))
		checkWalk(t, a, r, l, len(l))
		checkSteps(t, a, r, l, garden.Low, garden.Top)
	}
}

// A map that calls made is asked as one that was made by hand, and an older one as before.
func TestMapsOfCalls(t *testing.T) {
	a, all := grown(t, 60)
	for _, m := range all {
		checkBounds(t, a, m.r, m.l, []int64{-1, 0, 7, 8, 20, 39, 40})
		checkWalk(t, a, m.r, m.l, len(m.l))
		checkSteps(t, a, m.r, m.l, 5, 30)
	}
}

// version is a map, and what it holds.
type version struct {
	r api.Ref
	l []api.Item
}

// grown is an arena with maps of which each comes of the one ahead, by one call, and the first one is empty.
func grown(t *testing.T, calls int) (api.Arena, []version) {
	t.Helper()
	d := dice.From(81)
	a, _ := arena.New(512)
	all := []version{{}}
	for range calls {
		last, key := all[len(all)-1], int64(d.UpTo(40))
		next := version{l: slices.DeleteFunc(slices.Clone(last.l), func(i api.Item) bool { return i.K == key })}
		b, r, err := treap.Del(a, last.r, key)
		if err == api.ErrNone {
			b, r, err = treap.Put(a, last.r, key, key*3)
			next.l = slices.Concat(within(last.l, 0, key), []api.Item{{K: key, V: key * 3}}, within(last.l, key, 40))
		}
		if err != api.OK {
			t.Fatalf("a key is put or deleted: %d", err)
		}
		next.r = r
		a, all = b, append(all, next)
	}
	return a, all
}

// What is answered is new memory: what is written in it, or behind it, is in no other answer, nor in the arena.
func TestAnswersAreNew(t *testing.T) {
	l := garden.From(1, 20, 1)
	a, r := garden.Of(l, 7)
	before := garden.Clone(a)
	one, _ := span.All(a, r, 3, 18)
	other, _ := span.All(a, r, 3, 18)
	one = one[:cap(one)]
	for i := range one {
		one[i] = api.Item{K: -1, V: -1}
	}
	if !slices.Equal(other, within(l, 3, 18)) || !garden.Same(a, before) {
		t.Errorf("an answer is another one's: %v", other)
	}
	checkAll(t, a, r, l, 3, 18)
}

// The example of the chapter.
func TestTheExample(t *testing.T) {
	a, r := garden.Of([]api.Item{{K: 1, V: 10}, {K: 5, V: 50}, {K: 9, V: 90}}, 3)
	if l, err := span.All(a, r, 2, 9); !slices.Equal(l, []api.Item{{K: 5, V: 50}, {K: 9, V: 90}}) || err != api.OK {
		t.Errorf("All: %v, %d", l, err)
	}
}
