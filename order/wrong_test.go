package order_test

import (
	"math"
	"slices"
	"testing"

	"burgeon/api"
	"burgeon/arena"
	"burgeon/dice"
	"burgeon/mix"
	"burgeon/order"
	"burgeon/treap"
)

// refuse has all calls be done with a reference that is no map's, or of an arena that may not be; places and keys that are none, too.
func refuse(t *testing.T, name string, a api.Arena, r api.Ref) {
	t.Helper()
	before := clone(a)
	wrong := func(call string, n int, item api.Item, err api.Errno) {
		t.Helper()
		if err != api.ErrArg || n != 0 || item != (api.Item{}) {
			t.Errorf("%s: %s: %d, %v, %d", name, call, n, item, err)
		}
	}
	n, err := order.Size(a, r)
	wrong("Size", n, api.Item{}, err)
	for _, place := range []int{0, 1, 5, -1, 12, 200, math.MaxInt, math.MinInt} {
		item, err := order.At(a, r, place)
		wrong("At", 0, item, err)
	}
	for _, key := range []int64{0, 1, 5, 12, 13, 5000, lowKey, topKey} {
		place, err := order.Rank(a, r, key)
		wrong("Rank", place, api.Item{}, err)
		item, err := order.Floor(a, r, key)
		wrong("Floor", 0, item, err)
		item, err = order.Ceil(a, r, key)
		wrong("Ceil", 0, item, err)
	}
	if !same(a, before) {
		t.Errorf("%s: a call changed the arena that it was handed", name)
	}
}

// refuseRef is refuse of a reference that is wrong, of an arena that is not.
func refuseRef(t *testing.T, name string, a api.Arena, r api.Ref) {
	t.Helper()
	if !arena.Right(a) {
		t.Fatalf("%s: the arena may not be", name)
	}
	refuse(t, name, a, r)
}

// leafOf is the reference of a map's node without kids.
func leafOf(a api.Arena) api.Ref {
	i := slices.IndexFunc(a.Nodes, func(n api.Node) bool { return n.Kind == api.KTreap && n.S == 1 })
	return at(i, a.Nodes[i].Gen)
}

// stoneOf is the reference of the stone.
func stoneOf(a api.Arena) api.Ref {
	i := slices.IndexFunc(a.Nodes, func(n api.Node) bool { return n.Kind == stone.Kind })
	return at(i, a.Nodes[i].Gen)
}

// References that have no node of a map.
func TestWrongReferences(t *testing.T) {
	for _, free := range []int{1, 30} {
		a, r := garden(from(1, 12, 1), free)
		place := placeIn(r)
		gen := a.Nodes[place].Gen
		for _, wrong := range []api.Ref{
			stoneOf(a), at(a.Free[0], a.Nodes[a.Free[0]].Gen),
			at(place, gen+1), at(place, gen-1), at(place, 0), at(place, 1<<20), at(place, gen) + 1<<37,
			at(len(a.Nodes), 0), at(len(a.Nodes), gen), at(511, 0), at(511, 1<<20),
			513, 65535, 65536, at(512, gen), at(place, 1<<20+1), 1 << 63, math.MaxUint64,
		} {
			refuseRef(t, "a reference without a node", a, wrong)
		}
	}
}

// A map's nodes, each with one thing that is wrong: the call that would not come by it tells it, too.
func TestWrongNodes(t *testing.T) {
	for name, change := range map[string]func(n *api.Node, a api.Arena, i int){
		"a node of another kind":       func(n *api.Node, _ api.Arena, _ int) { n.Kind = api.KHeap },
		"a size that is too great":     func(n *api.Node, _ api.Arena, _ int) { n.S++ },
		"a size that is too small":     func(n *api.Node, _ api.Arena, _ int) { n.S-- },
		"a size far off":               func(n *api.Node, _ api.Arena, _ int) { n.S += 1 << 32 },
		"a Pre":                        func(n *api.Node, _ api.Arena, _ int) { n.Pre = 1 },
		"a Suf":                        func(n *api.Node, _ api.Arena, _ int) { n.Suf = 1 },
		"a third kid":                  func(n *api.Node, a api.Arena, _ int) { n.Kids[2] = leafOf(a) },
		"a last kid without a node":    func(n *api.Node, _ api.Arena, _ int) { n.Kids[8] = at(511, 0) },
		"itself as a kid":              func(n *api.Node, _ api.Arena, i int) { n.Kids[0] = at(i, n.Gen) },
		"itself as the other kid":      func(n *api.Node, _ api.Arena, i int) { n.Kids[1] = at(i, n.Gen) },
		"a kid without a node":         func(n *api.Node, _ api.Arena, _ int) { n.Kids[0] = at(511, 0) },
		"a kid that is none of a map":  func(n *api.Node, a api.Arena, _ int) { n.Kids[1] = stoneOf(a) },
		"another generation":           func(n *api.Node, _ api.Arena, _ int) { n.Gen ^= 1 },
		"a key below all":              func(n *api.Node, _ api.Arena, _ int) { n.N = lowKey },
		"a key above all":              func(n *api.Node, _ api.Arena, _ int) { n.N = topKey },
		"kids, the other way round":    func(n *api.Node, _ api.Arena, _ int) { n.Kids[0], n.Kids[1] = n.Kids[1], n.Kids[0] },
		"a kid of another generation":  func(n *api.Node, _ api.Arena, _ int) { n.Kids[0] ^= 1 << 16 },
		"one kid less":                 func(n *api.Node, _ api.Arena, _ int) { n.Kids[1] = 0 },
		"a node that is free":          func(n *api.Node, _ api.Arena, _ int) { *n = api.Node{Gen: n.Gen} },
		"a kid twice, and its size so": func(n *api.Node, a api.Arena, _ int) { n.Kids[1], n.S = n.Kids[0], 2*n.S },
	} {
		l := from(1, 12, 1)
		good, r := garden(l, 30)
		refused := 0
		for i, n := range good.Nodes {
			if n.Kind != api.KTreap {
				continue
			}
			a := clone(good)
			change(&a.Nodes[i], good, i)
			if !treap.Right(a, r) {
				refuse(t, name, a, r)
				refused++
			}
		}
		if refused < 3 {
			t.Errorf("%s: refused of %d nodes alone", name, refused)
		}
	}
}

func TestMoreThan200Keys(t *testing.T) {
	for _, n := range []int64{201, 202, 256, 300, 511} {
		a, r := garden(from(1, n, 1), min(60, 511-int(n)))
		refuseRef(t, "many keys", a, r)
	}
}

// Nodes that come back to themselves: the calls end all the same.
func TestRounds(t *testing.T) {
	l := row(3, rising)
	for side := range 2 {
		a := ground(20)
		var refs []api.Ref
		for i, item := range l {
			refs = append(refs, written(&a, api.Node{Kind: api.KTreap, N: item.K, S: int64(3 - i)}))
		}
		for i, r := range refs {
			a.Nodes[placeIn(r)].Kids[side] = refs[(i+1)%3]
		}
		for _, r := range refs {
			refuseRef(t, "a round", a, r)
		}
	}
}

// A row of nodes, each of which has the next one twice: there are far more ways down than nodes.
func TestKidsTwice(t *testing.T) {
	l := from(1, 150, 1)
	slices.SortFunc(l, func(a, b api.Item) int {
		if mix.Before(a.K, b.K) {
			return -1
		}
		return 1
	})
	a := ground(160)
	r, size := api.Ref(0), int64(0)
	for _, item := range slices.Backward(l) {
		size = 1 + 2*size
		r = written(&a, api.Node{Kind: api.KTreap, N: item.K, S: size, Kids: [9]api.Ref{r, r}})
	}
	refuseRef(t, "a row of kids twice", a, r)
}

// A map is one until one of its nodes is dropped, and is none again if its place is used again.
func TestStaleReferences(t *testing.T) {
	a, r := garden(from(1, 12, 1), 30)
	for i, n := range a.Nodes {
		if n.Kind != api.KTreap {
			continue
		}
		b, err := arena.Drop(a, i)
		if err != api.OK {
			t.Fatalf("Drop: %d", err)
		}
		refuseRef(t, "a node is dropped", b, r)
		c, _, err := arena.Make(b, n)
		if err != api.OK || c.Nodes[i].Kind == 0 {
			t.Fatalf("Make: %d, %v", err, c.Nodes[i])
		}
		refuseRef(t, "a node is dropped and made again", c, r)
	}
	checkOrder(t, a, r, from(1, 12, 1), 100)
}

// lame are arenas that may not be, each but for one thing a garden of 12 keys, whose nodes are as they were.
func lame(a api.Arena) map[string]api.Arena {
	change := func(how func(b *api.Arena, free, stone *api.Node)) api.Arena {
		b := clone(a)
		how(&b, &b.Nodes[b.Free[3]], &b.Nodes[placeIn(stoneOf(b))])
		return b
	}
	return map[string]api.Arena{
		"no nodes":               {},
		"no nodes, a free place": {Free: []int{0}},
		"513 nodes": change(func(b *api.Arena, _, _ *api.Node) {
			b.Nodes = append(b.Nodes, slices.Repeat([]api.Node{stone}, 513-len(b.Nodes))...)
		}),
		"a place is lacking":             change(func(b *api.Arena, _, _ *api.Node) { b.Free = b.Free[1:] }),
		"no place is free":               change(func(b *api.Arena, _, _ *api.Node) { b.Free = nil }),
		"a place twice":                  change(func(b *api.Arena, _, _ *api.Node) { b.Free = append(b.Free, b.Free[0]) }),
		"a place of a node":              change(func(b *api.Arena, _, _ *api.Node) { b.Free = append(b.Free, placeIn(leafOf(a))) }),
		"a place behind the last one":    change(func(b *api.Arena, _, _ *api.Node) { b.Free = append(b.Free, len(b.Nodes)) }),
		"a place below 0":                change(func(b *api.Arena, _, _ *api.Node) { b.Free = append(b.Free, -1) }),
		"a free node has something":      change(func(_ *api.Arena, free, _ *api.Node) { free.S = 1 }),
		"a free node's generation":       change(func(_ *api.Arena, free, _ *api.Node) { free.Gen = -1 }),
		"a generation that is too great": change(func(_ *api.Arena, free, _ *api.Node) { free.Gen = 1<<20 + 1 }),
		"a stone's Pre":                  change(func(_ *api.Arena, _, stone *api.Node) { stone.Pre = 10 }),
		"a stone's Suf":                  change(func(_ *api.Arena, _, stone *api.Node) { stone.Suf = -1 }),
		"a stone's Kid":                  change(func(_ *api.Arena, _, stone *api.Node) { stone.Kids[8] = 513 }),
	}
}

func TestArenasThatMayNotBe(t *testing.T) {
	good, r := garden(from(1, 12, 1), 30)
	checkOrder(t, good, r, from(1, 12, 1), 100)
	for name, a := range lame(good) {
		if arena.Right(a) {
			t.Fatalf("%s: the arena may be", name)
		}
		for _, ref := range []api.Ref{0, r, leafOf(good), at(511, 0), 513, math.MaxUint64} {
			refuse(t, name, a, ref)
		}
	}
}

// spoiled is an arena with one node changed at random.
func spoiled(d *dice.Dice, a api.Arena) api.Arena {
	a = clone(a)
	n := &a.Nodes[d.UpTo(len(a.Nodes))]
	other := d.UpTo(len(a.Nodes))
	ref := at(other, a.Nodes[other].Gen)
	switch d.UpTo(6) {
	case 0:
		n.N += int64(d.UpTo(7)) - 3
	case 1:
		n.V = int64(d.UpTo(1000))
	case 2:
		n.S += int64(d.UpTo(5)) - 2
	case 3:
		n.Kids[d.UpTo(2)] = ref
	case 4:
		n.Kids[0], n.Kids[1] = n.Kids[1], n.Kids[0]
	case 5:
		n.Kids[d.UpTo(9)] = 0
	}
	return a
}

// Of maps that are changed here and there, all that are none are refused, and all others answered.
func TestMapsThatAreChanged(t *testing.T) {
	d := dice.From(73)
	met := map[bool]int{}
	for range 1500 {
		a, r := garden(from(0, int64(2*d.UpTo(12)), 2), 0)
		for range 1 + d.UpTo(3) {
			a = spoiled(d, a)
		}
		is := treap.Right(a, r)
		if is {
			checkOrder(t, a, r, held(a, r), 12)
		} else {
			refuse(t, "a map that is changed", a, r)
		}
		met[is]++
	}
	if met[true] < 200 || met[false] < 200 {
		t.Errorf("%d maps and %d others are too few", met[true], met[false])
	}
}

// The same call with the same arguments answers the same, whatever was called between.
func TestNothingIsKept(t *testing.T) {
	a, r := garden(from(1, 12, 1), 30)
	b, s := garden(from(-600, 597, 6), 7)
	for range 3 {
		checkOrder(t, a, r, from(1, 12, 1), 20)
		refuse(t, "a stale reference", a, r+1<<16)
		checkOrder(t, b, s, from(-600, 597, 6), 20)
		refuse(t, "an arena of nothing", api.Arena{}, 0)
	}
}
