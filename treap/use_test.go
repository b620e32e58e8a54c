package treap_test

import (
	"slices"
	"testing"

	"burgeon/api"
	"burgeon/arena"
	"burgeon/dice"
	"burgeon/garden"
	"burgeon/treap"
)

// kept is a map that is held on to: its reference, and its items.
type kept struct {
	r api.Ref
	l []api.Item
}

// play is an arena with maps of which some are held on to, each made of others by calls.
type play struct {
	t    *testing.T
	d    *dice.Dice
	a    api.Arena
	maps []kept
	keys int // so many are drawn from
}

// come takes what a call answered; of one that found no node free, there is nothing.
func (p *play) come(name string, a api.Arena, err api.Errno, need int, maps ...kept) {
	p.t.Helper()
	if err == api.ErrFull {
		if len(p.a.Free) >= need || !garden.Empty(a) {
			p.t.Fatalf("%s: none is free of %d, with a need of %d", name, len(p.a.Free), need)
		}
		p.tidy()
		return
	}
	if err != api.OK {
		p.t.Fatalf("%s: %d", name, err)
	}
	checkGrown(p.t, p.a, a, need)
	p.a = a
	p.maps = append(p.maps, maps...)
	for _, m := range p.maps {
		if !slices.Equal(garden.Held(a, m.r), m.l) {
			p.t.Fatalf("%s: a map holds %v, not %v", name, garden.Held(a, m.r), m.l)
		}
	}
	for _, m := range maps {
		checkMap(p.t, a, m.r, m.l)
	}
}

// tidy forgets most maps, and has the nodes that no other one has be dropped.
func (p *play) tidy() {
	p.t.Helper()
	for len(p.maps) > 4 {
		i := p.d.UpTo(len(p.maps))
		p.maps = slices.Delete(p.maps, i, i+1)
	}
	var refs []api.Ref
	for _, m := range p.maps {
		refs = append(refs, m.r)
	}
	p.a = garden.Tidied(p.a, refs...)
}

// drawn is one of the maps, and often one that has many keys.
func (p *play) drawn() kept {
	best := p.maps[p.d.UpTo(len(p.maps))]
	for range p.d.UpTo(8) {
		if m := p.maps[p.d.UpTo(len(p.maps))]; len(m.l) > len(best.l) {
			best = m
		}
	}
	return best
}

// turn does a call with maps that are drawn.
func (p *play) turn() {
	p.t.Helper()
	m, key, v := p.drawn(), int64(p.d.UpTo(p.keys)), int64(p.d.UpTo(1000))
	switch p.d.UpTo(6) {
	case 0:
		if len(m.l) > 0 && p.d.UpTo(4) > 0 {
			key = m.l[p.d.UpTo(len(m.l))].K
		}
		p.del(m, key)
	case 1:
		a, low, high, err := treap.Split(p.a, m.r, key)
		p.come("Split", a, err, wants(len(m.l)), kept{low, below(m.l, key)}, kept{high, others(m.l, key)})
	case 2:
		p.join(m, p.drawn())
	default:
		l := garden.With(m.l, key, v)
		a, s, err := treap.Put(p.a, m.r, key, v)
		p.come("Put", a, err, wants(len(l)), kept{s, l})
	}
}

// del has a key be gone, or asks for one that is not there.
func (p *play) del(m kept, key int64) {
	p.t.Helper()
	a, s, err := treap.Del(p.a, m.r, key)
	if garden.Has(m.l, key) {
		l := garden.Without(m.l, key)
		p.come("Del", a, err, wants(len(l)), kept{s, l})
	} else if err != api.ErrNone || s != 0 || !garden.Empty(a) {
		p.t.Fatalf("Del of no key: %d, %d", s, err)
	}
}

// join has two maps be put together, if the keys of the one are below the other's.
func (p *play) join(m, o kept) {
	p.t.Helper()
	a, s, err := treap.Join(p.a, m.r, o.r)
	if len(m.l) == 0 || len(o.l) == 0 || m.l[len(m.l)-1].K < o.l[0].K {
		l := slices.Concat(m.l, o.l)
		p.come("Join", a, err, wants(len(l)), kept{s, l})
	} else if err != api.ErrRange || s != 0 || !garden.Empty(a) {
		p.t.Fatalf("Join: %d, %d", s, err)
	}
}

// What is got is what was put last, of each map that is held on to, however others are made of it and nodes are used again.
func TestUse(t *testing.T) {
	for seed, size := range []int{1, 2, 3, 8, 30, 100, 512} {
		a, _ := arena.New(size)
		p := &play{t, dice.From(uint64(seed)), a, []kept{{}}, 1 + size/3}
		for range 1500 {
			p.turn()
		}
		for _, m := range p.maps {
			checkMap(t, p.a, m.r, m.l)
		}
	}
}

// grow puts keys in an order, each with a value of its own, and drops what is not the last map's.
func grow(t *testing.T, keys []int64) (api.Arena, api.Ref) {
	t.Helper()
	p := &play{t: t, d: dice.From(1), maps: []kept{{}}}
	p.a, _ = arena.New(512)
	for _, key := range keys {
		p.put(key, key*3)
	}
	return p.a, p.maps[0].r
}

// put has a key be put into the one map, of which what is not used any more is dropped.
func (p *play) put(key, v int64) {
	p.t.Helper()
	a, r, err := treap.Put(p.a, p.maps[0].r, key, v)
	if err != api.OK {
		p.t.Fatalf("Put %d: %d", key, err)
	}
	p.a, p.maps[0].r = a, r
	p.tidy()
}

func TestOneShapeForAllOrders(t *testing.T) {
	for _, keys := range [][]int64{{1, 5, 9}, {-7, 3, 0, 4, 5}, {-garden.Most, -1, 0, 1, garden.Most}, row(5, true)} {
		first, r := grow(t, keys)
		garden.Orders(slices.Clone(keys), func(order []int64) {
			a, s := grow(t, order)
			if !garden.Alike(first, r, a, s) {
				t.Errorf("put as %v, the map has another shape", order)
			}
		})
	}
}

// 200 keys come in diverse orders, each at last with the same value.
func TestOneShapeOf200Keys(t *testing.T) {
	d := dice.From(64)
	keys := byRank(upTo(200))
	first, r := grow(t, keys)
	slices.Sort(keys)
	var want []api.Item
	for _, key := range keys {
		want = append(want, api.Item{K: key, V: key * 3})
	}
	checkMap(t, first, r, want)
	rising := slices.Clone(keys)
	slices.Reverse(keys)
	for _, order := range [][]int64{rising, keys, garden.Shuffled(d, keys), slices.Concat(keys[:50], garden.Shuffled(d, keys))} {
		if a, s := grow(t, order); !garden.Alike(first, r, a, s) {
			t.Errorf("put as %v, the map has another shape", order)
		}
	}
}

// One content that is come to by keys that are gone again, by parts of others, and by parts that are put together.
func TestOneShapeByOtherCalls(t *testing.T) {
	var want []api.Item
	var wanted, more []int64
	for key := range int64(40) {
		more = append(more, key-10)
		if key < 20 {
			want = append(want, api.Item{K: key, V: key * 3})
			wanted = append(wanted, key)
		}
	}
	d := dice.From(65)
	for i := range int64(21) {
		a, r := grow(t, garden.Shuffled(d, more))
		a, _, r, err := treap.Split(a, r, 0)
		a, r, _, errSplit := treap.Split(a, r, 20)
		if err != api.OK || errSplit != api.OK {
			t.Fatalf("Split: %d, %d", err, errSplit)
		}
		checkMap(t, a, r, want)
		a, low, high, err := treap.Split(a, r, i)
		a, r, errJoin := treap.Join(a, low, high)
		if err != api.OK || errJoin != api.OK {
			t.Fatalf("Split %d and Join: %d, %d", i, err, errJoin)
		}
		checkMap(t, a, r, want)

		b, s := grow(t, garden.Shuffled(d, more))
		for _, key := range garden.Shuffled(d, more) {
			if slices.Contains(wanted, key) {
				continue
			}
			if b, s, err = treap.Del(b, s, key); err != api.OK {
				t.Fatalf("Del %d: %d", key, err)
			}
		}
		checkMap(t, b, s, want)
		if !garden.Alike(a, r, b, s) {
			t.Fatal("two maps of one content have two shapes")
		}
	}
}

// roomy is an arena with a map.
func roomy() (api.Arena, api.Ref) { return garden.Of(upTo(20), 60) }

// answers are arenas that calls answer of one; some of these make nodes, and some make none.
func answers(a api.Arena, r api.Ref) []api.Arena {
	put, _, _ := treap.Put(a, r, 5, 7)
	del, _, _ := treap.Del(a, r, 5)
	split, _, _, _ := treap.Split(a, r, 10)
	ends, _, _, _ := treap.Split(a, r, 0)
	join, _, _ := treap.Join(a, r, 0)
	none, _, _ := treap.Join(a, 0, 0)
	one, _, _ := treap.Del(a, garden.LeafOf(a), a.Nodes[int(garden.LeafOf(a)%65536)-1].N)
	return []api.Arena{put, del, split, ends, join, none, one}
}

// No list that is handed in is changed, not behind its length either, whatever a call answers; and what is answered is new memory.
func TestNothingIsShared(t *testing.T) {
	what := garden.Shared(roomy, func(a api.Arena, r api.Ref) []api.Arena {
		treap.Right(a, r)
		treap.Get(a, r, 5)
		treap.Put(a, r, garden.Most+1, 5)
		treap.Del(a, r, 21)
		treap.Join(a, r, r)
		treap.Put(a, garden.At(511, 0), 5, 5)
		return answers(a, r)
	})
	if what != "" {
		t.Error(what)
	}
}

// The same call with the same arguments answers the same, whatever was called between.
func TestNothingIsKept(t *testing.T) {
	a, r := roomy()
	first := answers(a, r)
	b, s := garden.Of(upTo(200), 100)
	answers(b, s)
	for i, again := range answers(a, r) {
		if !garden.Same(first[i], again) {
			t.Errorf("answer %d is another one the second time", i)
		}
	}
}
