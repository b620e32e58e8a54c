package treap_test

import (
	"math"
	"slices"
	"testing"

	"burgeon/api"
	"burgeon/arena"
	"burgeon/garden"
	"burgeon/mix"
	"burgeon/treap"
)

// answered is what a call answered.
type answered struct {
	name string
	a    api.Arena
	refs []api.Ref
	v    int64
	err  api.Errno
}

// calls are all calls but Right of a reference, some of them more than once.
func calls(a api.Arena, r, other api.Ref) []answered {
	var l []answered
	add := func(name string, a api.Arena, err api.Errno, refs ...api.Ref) {
		l = append(l, answered{name: name, a: a, refs: refs, err: err})
	}
	for _, key := range []int64{0, 1, 5, 200, 1000, garden.Most, garden.Most + 1, -garden.Most - 1, garden.Top, garden.Low} {
		v, err := treap.Get(a, r, key)
		l = append(l, answered{name: "Get", v: v, err: err})
		b, s, err := treap.Put(a, r, key, 7)
		add("Put", b, err, s)
		b, s, err = treap.Del(a, r, key)
		add("Del", b, err, s)
		b, s, u, err := treap.Split(a, r, key)
		add("Split", b, err, s, u)
	}
	for _, o := range []api.Ref{0, other, r} {
		b, s, err := treap.Join(a, r, o)
		add("Join", b, err, s)
		b, s, err = treap.Join(a, o, r)
		add("Join, as the right one", b, err, s)
	}
	return l
}

// refuse has all calls be done with a reference that is no map's, or of an arena that may not be.
func refuse(t *testing.T, name string, a api.Arena, r, other api.Ref) {
	t.Helper()
	before := garden.Clone(a)
	if treap.Right(a, r) {
		t.Errorf("%s: %d is a map's", name, r)
	}
	for _, c := range calls(a, r, other) {
		if c.err != api.ErrArg || c.v != 0 || !garden.Empty(c.a) || slices.Max(append(c.refs, 0)) != 0 {
			t.Errorf("%s: %s: %d nodes, %v, %d, %d", name, c.name, len(c.a.Nodes), c.refs, c.v, c.err)
		}
	}
	if !garden.Same(a, before) {
		t.Errorf("%s: a call changed the arena that it was handed", name)
	}
}

// refuseRef is refuse of a reference that is wrong, of an arena that is not, with a good map beside it.
func refuseRef(t *testing.T, name string, a api.Arena, r api.Ref) {
	t.Helper()
	if !arena.Right(a) {
		t.Fatalf("%s: the arena may not be", name)
	}
	if garden.IsMap(a, r) {
		t.Fatalf("%s: %d is a map's", name, r)
	}
	var other api.Ref
	if len(a.Free) > 0 && len(a.Nodes) > 2 {
		a = garden.Clone(a)
		other = garden.Plant(&a, garden.Items(5000))
	}
	refuse(t, name, a, r, other)
}

// spoiled refuses maps of 12 keys, each with one node of it as change makes it: each node, with free ones beside and without. What is a map's all the same is passed over.
func spoiled(t *testing.T, name string, change func(n *api.Node, a api.Arena)) {
	t.Helper()
	for _, free := range []int{0, 30} {
		a, r := garden.Of(upTo(12), free)
		for i, n := range a.Nodes {
			if n.Kind != api.KTreap {
				continue
			}
			b := garden.Clone(a)
			change(&b.Nodes[i], a)
			if !garden.IsMap(b, r) {
				refuseRef(t, name, b, r)
			}
		}
	}
}

func TestNodesOfOtherKinds(t *testing.T) {
	for _, kind := range []int{2, 3, 4, 5, 6, 7, 100, 101, 257, -1, math.MinInt, math.MaxInt} {
		spoiled(t, "a node of another kind", func(n *api.Node, _ api.Arena) { n.Kind = kind })
	}
}

func TestWrongSizes(t *testing.T) {
	for _, by := range []int64{-1, 1, 2, 12, -12, 256, 1 << 32, math.MinInt64, math.MaxInt64} {
		spoiled(t, "a wrong S", func(n *api.Node, _ api.Arena) { n.S += by })
	}
	for _, size := range []int64{0, -1, 12, 13, 200, 201, math.MinInt64, math.MaxInt64} {
		spoiled(t, "a wrong S", func(n *api.Node, _ api.Arena) { n.S = size })
	}
}

func TestWhatIsNot0(t *testing.T) {
	for _, small := range []int{1, 2, 9} {
		spoiled(t, "a Pre", func(n *api.Node, _ api.Arena) { n.Pre = small })
		spoiled(t, "a Suf", func(n *api.Node, _ api.Arena) { n.Suf = small })
	}
	for kid := 2; kid < 9; kid++ {
		spoiled(t, "a Kid beside the first two, which is a map's", func(n *api.Node, a api.Arena) {
			n.Kids[kid] = garden.LeafOf(a)
		})
		spoiled(t, "a Kid beside the first two, which has no node", func(n *api.Node, _ api.Arena) {
			n.Kids[kid] = garden.At(511, 0)
		})
	}
}

// freeOf is the reference of a free node, or of a place that the arena does not have.
func freeOf(a api.Arena) api.Ref {
	if len(a.Free) == 0 {
		return garden.At(len(a.Nodes), 0)
	}
	return garden.At(a.Free[0], a.Nodes[a.Free[0]].Gen)
}

func TestWrongKids(t *testing.T) {
	for kid := range 2 {
		spoiled(t, "a kid of another generation", func(n *api.Node, _ api.Arena) {
			if n.Kids[kid] != 0 {
				n.Kids[kid] ^= 1 << 16
			}
		})
		spoiled(t, "a free kid", func(n *api.Node, a api.Arena) { n.Kids[kid] = freeOf(a) })
		spoiled(t, "a kid of no place", func(n *api.Node, _ api.Arena) { n.Kids[kid] = garden.At(511, 1<<20) })
		spoiled(t, "a kid less", func(n *api.Node, _ api.Arena) { n.Kids[kid] = 0 })
		spoiled(t, "the other kid again", func(n *api.Node, _ api.Arena) { n.Kids[kid] = n.Kids[1-kid] })
		spoiled(t, "itself", func(n *api.Node, a api.Arena) {
			i := slices.Index(a.Nodes, *n)
			n.Kids[kid] = garden.At(i, n.Gen)
		})
		spoiled(t, "a kid of another kind", func(n *api.Node, a api.Arena) {
			i := slices.IndexFunc(a.Nodes, func(n api.Node) bool { return n.Kind == garden.Stone().Kind })
			n.Kids[kid] = garden.At(i, a.Nodes[i].Gen)
		})
	}
	spoiled(t, "the kids the other way round", func(n *api.Node, _ api.Arena) { n.Kids[0], n.Kids[1] = n.Kids[1], n.Kids[0] })
}

// Some of these keys stand in their place by Before alone, and some by their order alone.
func TestKeysOutOfOrder(t *testing.T) {
	for _, key := range []int64{1, 5, 6, 7, 12, -5, 100, garden.Low, garden.Top} {
		spoiled(t, "another key", func(n *api.Node, _ api.Arena) { n.N = key })
	}
}

// Three keys in a row, in each order and on each sides: those that are a map's are told, and the others.
func TestThreeInARow(t *testing.T) {
	keys := byRank(upTo(9))
	may := 0
	for i := range 9 * 9 * 9 * 4 {
		row := []int64{keys[i%9], keys[i/9%9], keys[i/81%9]}
		on := []int{i / 729 % 2, i / 1458}
		a := garden.Ground(20)
		r := hung(&a, row, on)
		fit := fits(row[0], row[1], on[0]) && fits(row[0], row[2], on[0]) && fits(row[1], row[2], on[1])
		if got := treap.Right(a, r); got != fit {
			t.Errorf("%v, on the sides %v: %v", row, on, got)
		}
		if !fit {
			refuseRef(t, "three in a row", a, r)
		} else {
			may++
		}
	}
	if may < 30 {
		t.Errorf("only %d maps", may)
	}
}

// fits tells whether a key may stand anywhere beneath another one, on a side of it.
func fits(above, key int64, side int) bool {
	return mix.Before(above, key) && (key < above) == (side == 0) && key != above
}

func TestMoreThan200Keys(t *testing.T) {
	for _, n := range []int64{201, 202, 256, 300, 511} {
		a, r := garden.Of(upTo(n), min(60, 511-int(n)))
		refuseRef(t, "many keys", a, r)
		top, _ := arena.Get(a, r)
		for _, kid := range top.Kids[:2] {
			if n, _ := arena.Get(a, kid); n.S > 200 {
				refuseRef(t, "many keys beneath", a, kid)
			} else if !treap.Right(a, kid) {
				t.Errorf("a kid of %d keys is no map", n.S)
			}
		}
	}
	// The sizes do not tell it.
	a, r := garden.Of(upTo(201), 60)
	top := &a.Nodes[int(r%65536)-1]
	top.S = 200
	refuseRef(t, "many keys, and another S", a, r)
}

// Nodes whose sizes agree at one place alone, and that come back to themselves.
func TestRounds(t *testing.T) {
	keys := byRank(upTo(9))
	node := func(key, size int64, kids ...api.Ref) api.Node {
		n := api.Node{Kind: api.KTreap, N: key, S: size}
		copy(n.Kids[:], kids)
		return n
	}
	one, two, three := garden.At(0, 0), garden.At(1, 0), garden.At(2, 0)
	for _, nodes := range [][]api.Node{
		{node(5, 1, one)},
		{node(5, 1, 0, one)},
		{node(5, 1, one, one)},
		{node(5, -1, one, one)},
		{node(5, 1, one, two), node(7, -1)},
		{node(5, 1, two, one), node(3, -1)},
		{node(keys[0], 2, two), node(keys[1], 2, one)},
		{node(keys[0], 2, 0, two), node(keys[1], 2, 0, one)},
		{node(keys[0], 2, two), node(keys[1], 1, one, three), node(keys[2], -2)},
		{node(keys[0], 3, two, two), node(keys[1], 1)},
		{node(keys[0], 5, two, three), node(keys[1], 2, three), node(keys[2], 2, two)},
		{node(keys[0], 1, two), node(keys[1], 0)},
		{node(keys[0], 3, two), node(keys[1], 2)},
		{node(keys[0], math.MinInt64, two), node(keys[1], math.MaxInt64)},
	} {
		a := api.Arena{Nodes: nodes}
		for i := range 4 {
			a.Free = append(a.Free, len(a.Nodes)+i)
		}
		a.Nodes = append(slices.Clone(a.Nodes), make([]api.Node, 4)...)
		refuseRef(t, "a round", a, one)
	}
}

// A row of nodes, each of which has the next one twice: there are far more ways down than nodes, and the call ends all the same.
func TestKidsTwice(t *testing.T) {
	keys := byRank(upTo(150))
	a := api.Arena{}
	for i, key := range keys {
		next := garden.At((i+1)%len(keys), 0)
		// So small a size is one more than that of both kids, all the way round.
		a.Nodes = append(a.Nodes, api.Node{Kind: api.KTreap, N: key, S: -1, Kids: [9]api.Ref{next, next}})
	}
	refuse(t, "a round of kids twice", a, garden.At(0, 0), 0)
	size, last := int64(0), len(a.Nodes)-1
	for i := range a.Nodes {
		size = 1 + 2*size
		a.Nodes[last-i].S = size
	}
	a.Nodes[last].Kids = [9]api.Ref{}
	for i := range last {
		refuse(t, "a row of kids twice", a, garden.At(i, 0), 0)
	}
}

// References that have no node of a map.
func TestWrongReferences(t *testing.T) {
	for _, free := range []int{0, 30} {
		a, r := garden.Of(upTo(12), free)
		place := int(r%65536) - 1
		gen := a.Nodes[place].Gen
		for _, wrong := range []api.Ref{
			garden.At(place, gen+1), garden.At(place, gen-1), garden.At(place, 0), garden.At(place, 1<<20), garden.At(place, gen) + 1<<37, freeOf(a),
			garden.At(len(a.Nodes), 0), garden.At(len(a.Nodes), gen), garden.At(511, 0), garden.At(511, 1<<20),
			513, 65535, 65536, garden.At(512, gen), garden.At(place, 1<<20+1), 1 << 63, math.MaxUint64,
		} {
			refuseRef(t, "a reference without a node", a, wrong)
		}
		for kind := 2; kind <= 7; kind++ {
			b := garden.Clone(a)
			b.Nodes[place].Kind = kind
			refuseRef(t, "a node of another kind", b, r)
		}
	}
}

// A map is one until one of its nodes is dropped, and is none again if its place is used again.
func TestStaleReferences(t *testing.T) {
	l := upTo(12)
	a, r := garden.Of(l, 30)
	for i, n := range a.Nodes {
		if n.Kind != api.KTreap {
			continue
		}
		b, err := arena.Drop(a, i)
		if err != api.OK {
			t.Fatalf("Drop: %d", err)
		}
		refuseRef(t, "a node is dropped", b, r)
		c, _, err := arena.Make(b, n)
		if err != api.OK || c.Nodes[i].Kind == 0 {
			t.Fatalf("Make: %d, %v", err, c.Nodes[i])
		}
		refuseRef(t, "a node is dropped and made again", c, r)
	}
	checkMap(t, a, r, l)
}

func TestNoMaps(t *testing.T) {
	for _, no := range garden.NoMaps() {
		refuse(t, no.What, no.Arena, no.Ref, 0)
	}
}

// Without a map beside it, and without any node free: what is no map's comes ahead of all other errors.
func TestErrArgComesFirst(t *testing.T) {
	a, _ := garden.Of(upTo(200), 0)
	b, r := garden.Of(upTo(200), 0)
	b.Nodes[int(garden.LeafOf(b)%65536)-1].Suf = 1
	refuse(t, "200 keys", b, r, 0)
	refuse(t, "no node", a, garden.At(511, 0), 0)
	for _, key := range farKeys {
		if _, _, err := treap.Put(b, r, key, 1); err != api.ErrArg {
			t.Errorf("Put %d: %d", key, err)
		}
	}
}
