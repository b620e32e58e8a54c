package arena_test

import (
	"math"
	"slices"
	"testing"

	"burgeon/api"
	"burgeon/arena"
)

const topGen = 1 << 20

// at is the reference of a place and a generation.
func at(place, gen int) api.Ref { return api.Ref(gen)<<16 + api.Ref(place) + 1 }

// kids are references of a node, the first ones of nine.
func kids(refs ...api.Ref) (k [9]api.Ref) {
	copy(k[:], refs)
	return k
}

// full is a node that has something of everything.
func full(kind int) api.Node {
	return api.Node{Kind: kind, Gen: 77, N: -5, V: 6, S: 7, Kids: kids(at(511, topGen), 0, at(0, 3), at(1, 0)), Pre: 8, Suf: 9}
}

// some is an arena of n nodes, of which those of the places are free, the last one first; each node has its place as its generation.
func some(n int, free ...int) api.Arena {
	a := api.Arena{Free: free}
	for i := range n {
		a.Nodes = append(a.Nodes, api.Node{Kind: 1 + i%100, Gen: i, N: int64(1000 + i)})
	}
	for _, place := range free {
		a.Nodes[place] = api.Node{Gen: place}
	}
	return a
}

// clone is an arena of new memory.
func clone(a api.Arena) api.Arena {
	return api.Arena{Nodes: slices.Clone(a.Nodes), Free: slices.Clone(a.Free)}
}

// same holds arenas against each other; a nil list counts as an empty one.
func same(a, b api.Arena) bool {
	return slices.Equal(a.Nodes, b.Nodes) && slices.Equal(a.Free, b.Free)
}

// empty tells whether an arena is the zero value.
func empty(a api.Arena) bool { return len(a.Nodes) == 0 && len(a.Free) == 0 }

func TestNew(t *testing.T) {
	for _, size := range []int{1, 2, 3, 100, 511, 512} {
		a, err := arena.New(size)
		if err != api.OK || len(a.Nodes) != size || len(a.Free) != size || !arena.Right(a) {
			t.Fatalf("New %d: %d nodes, %d free, %d", size, len(a.Nodes), len(a.Free), err)
		}
		for i := range size {
			if a.Nodes[i] != (api.Node{}) || a.Free[i] != size-1-i {
				t.Errorf("New %d: at %d %v and the place %d", size, i, a.Nodes[i], a.Free[i])
			}
		}
	}
}

func TestNewOfNoSize(t *testing.T) {
	for _, size := range []int{-1, 0, 513, 514, -512, 1 << 32, 1<<32 + 1, math.MinInt, math.MaxInt} {
		if a, err := arena.New(size); err != api.ErrArg || !empty(a) {
			t.Errorf("New %d: %v, %d", size, a, err)
		}
	}
}

// arenaCase is an arena that may be, or may not.
type arenaCase struct {
	name string
	a    api.Arena
	may  bool
}

// with is an arena of three nodes, of which one is free, with a node at a place.
func with(place int, n api.Node) api.Arena {
	a := some(3, 1)
	a.Nodes[place] = n
	return a
}

// sizes are arenas of many nodes, and of none.
func sizes() []arenaCase {
	return []arenaCase{
		{"no nodes", api.Arena{}, false},
		{"no nodes, empty lists", api.Arena{Nodes: []api.Node{}, Free: []int{}}, false},
		{"no nodes, a free place", api.Arena{Free: []int{0}}, false},
		{"one node, none free", some(1), true},
		{"one node, free", some(1, 0), true},
		{"511 nodes", some(511), true},
		{"512 nodes", some(512), true},
		{"512 nodes, the last one free", some(512, 511), true},
		{"513 nodes", some(513), false},
		{"513 nodes, the last one free", some(513, 512), false},
		{"513 nodes, the first one free", some(513, 0), false},
		{"512 of 513 nodes", api.Arena{Nodes: some(513).Nodes[:512]}, true},
		{"2000 nodes", some(2000), false},
		{"free nodes alone", api.Arena{Nodes: make([]api.Node, 3), Free: []int{1, 2, 0}}, true},
	}
}

// nodes are arenas one node of which has numbers at the edges: it is the first one, or the last one.
func nodes() []arenaCase {
	var out []arenaCase
	add := func(name string, n api.Node, may bool) {
		out = append(out, arenaCase{name, with(0, n), may}, arenaCase{name, with(2, n), may})
	}
	for gen, may := range map[int]bool{-1: false, 0: true, 1: true, topGen - 1: true, topGen: true, topGen + 1: false, topGen + 2: false, math.MinInt: false, math.MaxInt: false} {
		add("a generation", api.Node{Kind: 1, Gen: gen}, may)
		free := with(1, api.Node{Gen: gen})
		out = append(out, arenaCase{"a free node's generation", free, may})
	}
	for n, may := range map[int]bool{-1: false, 0: true, 1: true, 9: true, 10: false, 11: false, math.MinInt: false, math.MaxInt: false} {
		add("Pre", api.Node{Kind: 1, Pre: n}, may)
		add("Suf", api.Node{Kind: 1, Suf: n}, may)
		add("Pre and Suf", api.Node{Kind: 1, Pre: n, Suf: 9}, may)
	}
	for r, may := range map[api.Ref]bool{1: true, 2: true, 512: true, 513: false, 65536: false, at(511, topGen): true, at(0, topGen+1): false, math.MaxUint64: false} {
		for i := range 9 {
			n := api.Node{Kind: 1}
			n.Kids[i] = r
			add("Kids", n, may)
		}
	}
	for _, kind := range []int{-1, 1, 6, 7, 100, 101, math.MinInt, math.MaxInt} {
		add("a kind", api.Node{Kind: kind}, true)
	}
	add("numbers of all kinds", api.Node{Kind: 3, N: math.MinInt64, V: math.MaxInt64, S: -1, Pre: 9, Suf: 9}, true)
	return out
}

// frees are arenas whose Free is at the edges, or whose free nodes have something.
func frees() []arenaCase {
	lists := []struct {
		name string
		free []int
		may  bool
	}{
		{"the free places", []int{1, 3}, true},
		{"the free places, the other way round", []int{3, 1}, true},
		{"a place is lacking", []int{1}, false},
		{"another place is lacking", []int{3}, false},
		{"places are lacking", nil, false},
		{"a place twice", []int{1, 3, 1}, false},
		{"a place twice, in the place of another one", []int{3, 3}, false},
		{"a place below 0", []int{1, 3, -1}, false},
		{"a place behind the last one", []int{1, 3, 5}, false},
		{"a place behind the last one, in the place of another one", []int{5, 3}, false},
		{"a place far away", []int{math.MaxInt, 3}, false},
		{"a place far below 0", []int{1, math.MinInt}, false},
		{"a place of a node", []int{1, 3, 0}, false},
		{"a place of a node, in the place of another one", []int{1, 4}, false},
		{"all places", []int{0, 1, 2, 3, 4}, false},
	}
	var out []arenaCase
	for _, l := range lists {
		a := some(5, 1, 3)
		a.Free = l.free
		out = append(out, arenaCase{l.name, a, l.may})
	}
	negative := some(5, 1)
	negative.Nodes[3] = api.Node{Kind: -1}
	negative.Free = []int{1, 3}
	out = append(out, arenaCase{"a place of a node of kind -1", negative, false})
	for _, n := range []api.Node{{N: 1}, {V: -1}, {S: 1}, {Pre: 1}, {Suf: 9}, {Kids: kids(1)}, {Kids: kids(0, 0, 0, 0, 0, 0, 0, 0, 2)}, {Kids: kids(513)}} {
		out = append(out, arenaCase{"a free node has something", with(1, n), false})
		n.Gen = 5
		out = append(out, arenaCase{"a free node has something and a generation", with(1, n), false})
	}
	return out
}

// cases are arenas at all edges.
func cases() []arenaCase { return slices.Concat(sizes(), nodes(), frees()) }

func TestRight(t *testing.T) {
	for _, c := range cases() {
		if got := arena.Right(c.a); got != c.may {
			t.Errorf("%s: Right %v of %v", c.name, got, c.a)
		}
	}
}

func TestCallsOnArenasAtTheEdges(t *testing.T) {
	for _, c := range cases() {
		before := clone(c.a)
		b, r, err := arena.Make(c.a, api.Node{Kind: 1})
		want := api.OK
		if !c.may {
			want = api.ErrArg
		} else if len(c.a.Free) == 0 {
			want = api.ErrFull
		}
		if err != want || err != api.OK && (r != 0 || !empty(b)) || err == api.OK && !arena.Right(b) {
			t.Errorf("%s: Make: %v, %d, %d", c.name, b, r, err)
		}
		want = api.OK
		if !c.may {
			want = api.ErrArg
		}
		if b, err := arena.Drop(c.a); err != want || c.may && !same(b, c.a) || !c.may && !empty(b) {
			t.Errorf("%s: Drop: %v, %d", c.name, b, err)
		}
		if l, err := arena.Reach(c.a); err != want || len(l) != 0 {
			t.Errorf("%s: Reach: %v, %d", c.name, l, err)
		}
		if l, err := arena.Reach(c.a, at(0, 0), at(2, 2)); err != want || !c.may && len(l) != 0 {
			t.Errorf("%s: Reach: %v, %d", c.name, l, err)
		}
		if !same(c.a, before) {
			t.Errorf("%s: a call changed it", c.name)
		}
	}
}

func TestGet(t *testing.T) {
	a := some(512, 9, 4)
	a.Nodes[300] = full(100)
	a.Nodes[511].Gen = topGen
	for _, c := range []struct {
		r     api.Ref
		place int // -1: stale
	}{
		{at(0, 0), 0}, {at(1, 1), 1}, {at(300, 77), 300}, {at(510, 510), 510}, {at(511, topGen), 511},
		{0, -1}, {at(0, 1), -1}, {at(1, 0), -1}, {at(1, 2), -1}, {at(300, 76), -1}, {at(300, 78), -1},
		{at(511, 0), -1}, {at(511, topGen-1), -1}, {at(511, topGen+1), -1}, {at(512, 0), -1}, {at(512, 512), -1},
		{at(4, 4), -1}, {at(9, 9), -1}, {at(4, 0), -1}, {1<<63 + 1, -1}, {math.MaxUint64, -1},
	} {
		n, err := arena.Get(a, c.r)
		if c.place >= 0 && (err != api.OK || n != a.Nodes[c.place]) || c.place < 0 && (err != api.ErrStale || n != api.Node{}) {
			t.Errorf("Get %d: %v, %d", c.r, n, err)
		}
	}
}

// Get asks no more than for the reference's node, of an arena that may not be, too.
func TestGetOfWhatMayNotBe(t *testing.T) {
	long := some(600)
	odd := api.Node{Kind: -1, Gen: 2, Pre: -1, Suf: 10, Kids: kids(513)}
	for _, c := range []struct {
		name string
		a    api.Arena
		r    api.Ref
		want api.Node
	}{
		{"no nodes", api.Arena{}, 1, api.Node{}},
		{"no nodes", api.Arena{Nodes: []api.Node{}}, at(511, 0), api.Node{}},
		{"no nodes, and 0", api.Arena{}, 0, api.Node{}},
		{"few nodes", some(2), at(2, 2), api.Node{}},
		{"few nodes, one of the capacity", api.Arena{Nodes: some(3).Nodes[:2]}, at(2, 2), api.Node{}},
		{"600 nodes", long, at(511, 511), long.Nodes[511]},
		{"600 nodes", long, at(0, 0), long.Nodes[0]},
		{"600 nodes, and 0", long, 0, api.Node{}},
		{"600 nodes, behind the last place", long, at(512, 512), api.Node{}},
		{"a node that may not be", with(2, odd), at(2, 2), odd},
		{"another generation", with(2, odd), at(2, 1), api.Node{}},
		{"a generation below 0", with(0, api.Node{Kind: 1, Gen: -1}), at(0, 0), api.Node{}},
		{"a generation below 0, and 0", with(0, api.Node{Kind: 1, Gen: -1}), 0, api.Node{}},
		{"a generation that is too great", with(0, api.Node{Kind: 1, Gen: topGen + 1}), at(0, topGen+1), api.Node{}},
		{"a free node that has something", with(0, api.Node{N: 5}), at(0, 0), api.Node{}},
		{"a node whose place is free", api.Arena{Nodes: some(2).Nodes, Free: []int{0, 0, 7, -1}}, at(0, 0), some(2).Nodes[0]},
		{"a free node whose place is not", api.Arena{Nodes: make([]api.Node, 2)}, at(0, 0), api.Node{}},
	} {
		want := api.OK
		if c.want == (api.Node{}) {
			want = api.ErrStale
		}
		if n, err := arena.Get(c.a, c.r); n != c.want || err != want {
			t.Errorf("%s: Get %d: %v, %d", c.name, c.r, n, err)
		}
	}
}

func TestMake(t *testing.T) {
	for _, c := range []struct {
		a     api.Arena
		n     api.Node
		place int
	}{
		{some(1, 0), api.Node{Kind: 1}, 0},
		{some(1, 0), api.Node{Kind: 100}, 0},
		{some(2, 1), full(2), 1},
		{some(5, 1, 4, 2), full(3), 2},
		{some(5, 0, 1, 2, 3, 4), full(6), 4},
		{some(5, 4, 3, 2, 1, 0), full(5), 0},
		{some(512, 7, 511), full(99), 511},
		{some(512, 511, 7), full(50), 7},
		{some(3, 1), api.Node{Kind: 1, Gen: -1}, 1},
		{some(3, 1), api.Node{Kind: 1, Gen: topGen + 1}, 1},
		{some(3, 1), api.Node{Kind: 1, Kids: kids(at(500, 1), at(1, 1)), Pre: 9}, 1},
		{some(3, 1), api.Node{Kind: 1, N: math.MinInt64, V: math.MaxInt64, S: -1, Suf: 9}, 1},
	} {
		want := clone(c.a)
		n := c.n
		n.Gen = c.a.Nodes[c.place].Gen
		want.Nodes[c.place] = n
		want.Free = want.Free[:len(want.Free)-1]
		b, r, err := arena.Make(c.a, c.n)
		if err != api.OK || r != at(c.place, n.Gen) || !same(b, want) || !arena.Right(b) {
			t.Errorf("Make %v of %v: %v, %d, %d", c.n, c.a, b, r, err)
		}
		if got, err := arena.Get(b, r); err != api.OK || got != n {
			t.Errorf("Get %d of what was made: %v, %d", r, got, err)
		}
	}
}

// A free node of the greatest generation has it as a node, too.
func TestMakeOfTheGreatestGeneration(t *testing.T) {
	a := api.Arena{Nodes: []api.Node{{Gen: 3}, {Gen: topGen}}, Free: []int{0, 1}}
	b, r, err := arena.Make(a, full(1))
	if err != api.OK || r != at(1, topGen) || b.Nodes[1].Gen != topGen || !slices.Equal(b.Free, []int{0}) {
		t.Errorf("Make: %v, %d, %d", b, r, err)
	}
}

// wrongNodes are nodes that are not made.
func wrongNodes() []api.Node {
	l := []api.Node{{}, {Kind: -1}, {Kind: 0, N: 1}, {Kind: 101}, {Kind: 257}, {Kind: 1<<32 + 1}, {Kind: math.MinInt}, {Kind: math.MaxInt}}
	for _, n := range []int{-1, 10, math.MinInt, math.MaxInt} {
		l = append(l, api.Node{Kind: 1, Pre: n}, api.Node{Kind: 1, Suf: n}, api.Node{Kind: 1, Pre: 9, Suf: n}, api.Node{Kind: 1, Pre: n, Suf: 9})
	}
	for _, r := range []api.Ref{513, 65535, 65536, at(512, 1), at(0, topGen+1), 1 << 63, math.MaxUint64} {
		for i := range 9 {
			n := api.Node{Kind: 100}
			n.Kids[i] = r
			l = append(l, n)
		}
	}
	return l
}

// ErrArg comes ahead of ErrFull.
func TestMakeOfWhatMayNotBe(t *testing.T) {
	for _, n := range wrongNodes() {
		for _, a := range []api.Arena{some(3, 1, 0), some(3), some(1, 0), {}} {
			if b, r, err := arena.Make(a, n); err != api.ErrArg || r != 0 || !empty(b) {
				t.Errorf("Make %v of %v: %v, %d, %d", n, a, b, r, err)
			}
		}
	}
}

func TestMakeWhereNoneIsFree(t *testing.T) {
	for _, size := range []int{1, 2, 511, 512} {
		for _, kind := range []int{1, 100} {
			if b, r, err := arena.Make(some(size), full(kind)); err != api.ErrFull || r != 0 || !empty(b) {
				t.Errorf("Make, of %d nodes: %v, %d, %d", size, b, r, err)
			}
		}
	}
}

func TestDrop(t *testing.T) {
	for _, c := range []struct {
		a      api.Arena
		places []int
	}{
		{some(1), nil},
		{some(1), []int{}},
		{some(1), []int{0}},
		{some(1, 0), nil},
		{some(5, 3, 1), nil},
		{some(5, 3, 1), []int{0}},
		{some(5, 3, 1), []int{4}},
		{some(5, 3, 1), []int{4, 0, 2}},
		{some(5, 3, 1), []int{2, 0}},
		{some(5), []int{0, 1, 2, 3, 4}},
		{some(5), []int{4, 3, 2, 1, 0}},
		{some(512), []int{511, 0, 300}},
	} {
		want := clone(c.a)
		for _, place := range c.places {
			want.Nodes[place] = api.Node{Gen: want.Nodes[place].Gen + 1}
			want.Free = append(want.Free, place)
		}
		b, err := arena.Drop(c.a, c.places...)
		if err != api.OK || !same(b, want) || !arena.Right(b) {
			t.Errorf("Drop %v of %v: %v, %d", c.places, c.a, b, err)
		}
	}
}

func TestDropOfAll512(t *testing.T) {
	var all []int
	for i := range 512 {
		all = append(all, (i*7+3)%512)
	}
	a, err := arena.Drop(some(512), all...)
	if err != api.OK || !slices.Equal(a.Free, all) || !arena.Right(a) {
		t.Fatalf("Drop of all: %v, %d", a.Free, err)
	}
	for i, n := range a.Nodes {
		if n != (api.Node{Gen: i + 1}) {
			t.Errorf("a dropped node at %d: %v", i, n)
		}
	}
}

// The greatest generation is followed by 0; whatever else a node has is gone.
func TestDropAtTheEdges(t *testing.T) {
	for gen, next := range map[int]int{0: 1, 1: 2, 65535: 65536, topGen - 1: topGen, topGen: 0} {
		n := full(100)
		n.Gen = gen
		b, err := arena.Drop(with(2, n), 2)
		if err != api.OK || b.Nodes[2] != (api.Node{Gen: next}) || !slices.Equal(b.Free, []int{1, 2}) {
			t.Errorf("Drop of generation %d: %v, %d", gen, b, err)
		}
	}
	odd, err := arena.Drop(with(0, api.Node{Kind: -1}), 0)
	if err != api.OK || odd.Nodes[0] != (api.Node{Gen: 1}) {
		t.Errorf("Drop of kind -1: %v, %d", odd, err)
	}
}

func TestDropOfWhatMayNotBe(t *testing.T) {
	for _, places := range [][]int{
		{-1}, {5}, {6}, {512}, {math.MinInt}, {math.MaxInt}, {1 << 32}, {0, -1}, {-1, 0}, {0, 5}, {5, 0},
		{1}, {3}, {0, 1}, {1, 0}, {0, 0}, {0, 2, 0}, {0, 2, 2}, {2, 0, 4, 2}, {1, 1}, {0, 2, 4, 3}, {0, 2, 4, 0},
		slices.Repeat([]int{4}, 1000),
	} {
		if b, err := arena.Drop(some(5, 3, 1), places...); err != api.ErrArg || !empty(b) {
			t.Errorf("Drop %v: %v, %d", places, b, err)
		}
	}
	if b, err := arena.Drop(api.Arena{}, 0); err != api.ErrArg || !empty(b) {
		t.Errorf("Drop of no arena: %v, %d", b, err)
	}
	if b, err := arena.Drop(api.Arena{Nodes: some(3).Nodes[:2]}, 2); err != api.ErrArg || !empty(b) {
		t.Errorf("Drop of a place of the capacity: %v, %d", b, err)
	}
}
