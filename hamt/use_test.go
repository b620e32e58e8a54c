package hamt_test

import (
	"slices"
	"testing"

	"burgeon/api"
	"burgeon/arena"
	"burgeon/dice"
	"burgeon/garden"
	"burgeon/hamt"
)

// kept is a table that is held on to: its reference, and its items.
type kept struct {
	r api.Ref
	l []api.Item
}

// play is an arena with tables of which some are held on to, each made of another one by a call.
type play struct {
	t      *testing.T
	d      *dice.Dice
	a      api.Arena
	tables []kept
	keys   []int64 // these are put and deleted
}

// turn does a call with a table that is drawn.
func (p *play) turn() {
	p.t.Helper()
	of := p.drawn()
	c := call{p.d.UpTo(3) > 0, p.keys[p.d.UpTo(len(p.keys))], int64(p.d.UpTo(1000))}
	want, wantErr := c.of(of.l)
	a, r, err := c.do(p.a, of.r)
	switch {
	case err == api.ErrFull && wantErr == api.OK && len(p.a.Free) < needOf(want) && r == 0 && garden.Empty(a):
		p.forget(4)
		return
	case err != wantErr:
		p.t.Fatalf("%v of %v: %d, not %d, with %d free", c, of.l, err, wantErr, len(p.a.Free))
	case err != api.OK:
		return
	}
	c.checkAnswer(p.t, p.a, a, r, want)
	p.a, p.tables = a, append(p.tables, kept{r, want})
	for _, old := range p.tables {
		if !slices.Equal(garden.HeldTable(a, old.r), old.l) {
			p.t.Fatalf("%v: a table holds %v, not %v", c, garden.HeldTable(a, old.r), old.l)
		}
	}
}

// drawn is one of the tables, and often one that has many keys.
func (p *play) drawn() kept {
	best := p.tables[p.d.UpTo(len(p.tables))]
	for range p.d.UpTo(8) {
		if other := p.tables[p.d.UpTo(len(p.tables))]; len(other.l) > len(best.l) {
			best = other
		}
	}
	return best
}

// forget holds on to so many of the tables alone, and has the nodes that none of these has be dropped.
func (p *play) forget(but int) {
	for len(p.tables) > but {
		i := p.d.UpTo(len(p.tables))
		p.tables = slices.Delete(p.tables, i, i+1)
	}
	var refs []api.Ref
	for _, table := range p.tables {
		refs = append(refs, table.r)
	}
	p.a = garden.Tidied(p.a, refs...)
}

// What is got is what was put last, of each table that is held on to, however others are made of it and nodes are used again.
func TestUse(t *testing.T) {
	crossed := garden.CrossKeys()
	for seed, size := range []int{1, 2, 4, 12, 30, 100, 512} {
		a, _ := arena.New(size)
		p := &play{t, dice.From(uint64(seed)), a, []kept{{}}, crossed}
		for key := range int64(1 + size/4) {
			p.keys = append(p.keys, key)
		}
		for range 1000 {
			p.turn()
		}
		for _, table := range p.tables {
			checkTable(t, p.a, table.r, table.l)
		}
	}
}

// Many keys of few hashes, up to the tenth of each.
func TestUseOfFewHashes(t *testing.T) {
	a, _ := arena.New(300)
	p := &play{t, dice.From(99), a, []kept{{}}, slices.Concat(garden.OneHash(), garden.TopHash())}
	for range 1500 {
		p.turn()
	}
	if !slices.ContainsFunc(p.tables, func(k kept) bool { return len(k.l) > 12 }) {
		t.Error("no table has more than 12 keys")
	}
}

// grow puts keys in an order, each with a value of its own, and drops what is not the last table's.
func grow(t *testing.T, keys []int64) (api.Arena, api.Ref) {
	t.Helper()
	a, _ := arena.New(512)
	return after(t, a, 0, keys, func(key int64) call { return call{true, key, key * 3} })
}

// after does calls with a table, one behind the other, and drops what is not the last table's.
func after(t *testing.T, a api.Arena, r api.Ref, keys []int64, of func(key int64) call) (api.Arena, api.Ref) {
	t.Helper()
	for _, key := range keys {
		b, s, err := of(key).do(a, r)
		if err != api.OK {
			t.Fatalf("%v: %d", of(key), err)
		}
		a, r = garden.Tidied(b, s), s
	}
	return a, r
}

func TestOneShapeForAllOrders(t *testing.T) {
	hash := garden.OneHash()
	for _, keys := range [][]int64{
		{1, 5, 9}, {-7, 3, 0, 4, 5}, {-garden.Most, -1, 0, 1, garden.Most},
		hash[:4], {hash[0], hash[3], 7, garden.Sharing(hash[0], 9)}, {5, garden.Sharing(5, 3), garden.Sharing(5, 6), garden.Sharing(5, 8), hash[1]},
	} {
		a, r := grow(t, keys)
		garden.Orders(keys, func(order []int64) {
			if b, s := grow(t, order); !garden.Alike(a, r, b, s) {
				t.Errorf("put as %v, the table has another shape", order)
			}
		})
	}
}

// 200 keys come in diverse orders, some of them twice, and some tables have others between, that are gone again.
func TestOneShapeOf200Keys(t *testing.T) {
	d := dice.From(93)
	var keys []int64
	var want []api.Item
	for key := range int64(200) {
		keys = append(keys, key*1001-90000)
		want = garden.With(want, key*1001-90000, 3*(key*1001-90000))
	}
	rising := slices.Clone(keys)
	slices.Reverse(keys)
	for _, order := range [][]int64{rising, keys, garden.Shuffled(d, keys), slices.Concat(keys[:50], garden.Shuffled(d, keys))} {
		a, r := grow(t, order)
		checkTable(t, a, r, want)
	}
	first := garden.Shuffled(d, keys)
	more := slices.Concat(garden.OneHash()[:9], garden.TopHash()[:9])
	a, r := grow(t, garden.Shuffled(d, slices.Concat(first[:150], more)))
	a, r = after(t, a, r, garden.Shuffled(d, more), deleting)
	a, r = after(t, a, r, first[150:], func(key int64) call { return call{true, key, key * 3} })
	checkTable(t, a, r, want)
}

// One content that is come to by keys that are gone again is that of the keys that were put alone; at the end there is none.
func TestOneShapeByDel(t *testing.T) {
	d := dice.From(94)
	for range 6 {
		keys := garden.Shuffled(d, slices.Concat(garden.OneHash()[:9], []int64{0, 1, 2, 3, 4, 6, 7, 8, 9}, garden.TopHash()[2:11]))
		a, r := grow(t, keys)
		for n := len(keys) - 1; n >= 0; n-- {
			a, r = after(t, a, r, keys[n:n+1], deleting)
			if b, s := grow(t, garden.Shuffled(d, keys[:n])); !garden.Alike(a, r, b, s) {
				t.Fatalf("of %v there is left another shape than of %v put", keys, keys[:n])
			}
		}
		if r != 0 {
			t.Errorf("of no key there is left %d", r)
		}
	}
}

// planted is an arena with a table that has nodes of all kinds.
func planted() (api.Arena, api.Ref) {
	return garden.TableOf(garden.Items(slices.Concat(garden.OneHash()[:3], []int64{0, 1, 2, 3})...), 40)
}

// answers are arenas that calls answer of one; some of these make nodes, and some make none.
func answers(a api.Arena, r api.Ref) []api.Arena {
	var l []api.Arena
	for _, c := range []call{putting(1), putting(9), deleting(1), deleting(5), deleting(garden.OneHash()[0])} {
		b, _, _ := c.do(a, r)
		l = append(l, b)
	}
	leaf := garden.LeafOf(a)
	none, _, _ := hamt.Del(a, leaf, a.Nodes[garden.PlaceIn(leaf)].N)
	one, _, _ := hamt.Put(a, 0, 5, 7)
	return append(l, none, one)
}

// No list that is handed in is changed, not behind its length either, whatever a call answers; and what is answered is new memory.
func TestNothingIsShared(t *testing.T) {
	what := garden.Shared(planted, func(a api.Arena, r api.Ref) []api.Arena {
		hamt.Right(a, r)
		hamt.Get(a, r, 5)
		hamt.Size(a, r)
		hamt.Put(a, r, garden.Most+1, 5)
		hamt.Del(a, r, 77)
		hamt.Put(a, garden.At(511, 0), 5, 5)
		return answers(a, r)
	})
	if what != "" {
		t.Error(what)
	}
}

// The same call with the same arguments answers the same, whatever was called between.
func TestNothingIsKept(t *testing.T) {
	a, r := planted()
	first := answers(a, r)
	answers(garden.TableOf(upTo(100), 100))
	for i, again := range answers(a, r) {
		if !garden.Same(first[i], again) {
			t.Errorf("answer %d is another one the second time", i)
		}
	}
}
