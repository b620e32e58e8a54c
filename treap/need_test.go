package treap_test

import (
	"slices"
	"testing"

	"burgeon/api"
	"burgeon/arena"
	"burgeon/garden"
	"burgeon/treap"
)

// change is a call that makes maps of one, and the items of what it answers.
type change struct {
	name string
	call func(a api.Arena, r api.Ref) (api.Arena, []api.Ref, api.Errno)
	want [][]api.Item
}

// putting is Put, as a change of items.
func putting(l []api.Item, key, v int64) change {
	return change{"Put", func(a api.Arena, r api.Ref) (api.Arena, []api.Ref, api.Errno) {
		b, s, err := treap.Put(a, r, key, v)
		return b, []api.Ref{s}, err
	}, [][]api.Item{garden.With(l, key, v)}}
}

// deleting is Del, as a change of items.
func deleting(l []api.Item, key int64) change {
	return change{"Del", func(a api.Arena, r api.Ref) (api.Arena, []api.Ref, api.Errno) {
		b, s, err := treap.Del(a, r, key)
		return b, []api.Ref{s}, err
	}, [][]api.Item{garden.Without(l, key)}}
}

// splitting is Split, as a change of items.
func splitting(l []api.Item, key int64) change {
	return change{"Split", func(a api.Arena, r api.Ref) (api.Arena, []api.Ref, api.Errno) {
		b, s, u, err := treap.Split(a, r, key)
		return b, []api.Ref{s, u}, err
	}, [][]api.Item{below(l, key), others(l, key)}}
}

// joining is Join of a map's kids, as a change of items.
func joining(l []api.Item) change {
	top := byRank(l)[0]
	return change{"Join", func(a api.Arena, r api.Ref) (api.Arena, []api.Ref, api.Errno) {
		n, _ := arena.Get(a, r)
		b, s, err := treap.Join(a, n.Kids[0], n.Kids[1])
		return b, []api.Ref{s}, err
	}, [][]api.Item{garden.Without(l, top)}}
}

// changes are changes of items that are not done with an error.
func changes(l []api.Item) []change {
	var out []change
	for _, key := range someKeys(l) {
		if len(l) < 200 || garden.Has(l, key) {
			out = append(out, putting(l, key, 7))
		}
		if garden.Has(l, key) {
			out = append(out, deleting(l, key))
		}
		out = append(out, splitting(l, key))
	}
	if len(l) > 0 {
		out = append(out, joining(l))
	}
	return out
}

// someKeys are keys, some of which are those of items.
func someKeys(l []api.Item) []int64 {
	keys := []int64{-1, 0, 999, 20000}
	for key := range int64(18) {
		keys = append(keys, key+1)
	}
	for i := 0; i < len(l); i += 1 + len(l)/6 {
		keys = append(keys, l[i].K)
	}
	slices.Sort(keys)
	return slices.Compact(keys)
}

// needOf is a change's need.
func (c change) needOf() int {
	keys := 0
	for _, l := range c.want {
		keys += len(l)
	}
	return wants(keys)
}

// try does a change of a map beside which so many nodes are free, and tells how many were made; -1, if a node found none free.
func (c change) try(t *testing.T, l []api.Item, free int) int {
	t.Helper()
	a, r := garden.Of(l, free)
	before := garden.Clone(a)
	b, refs, err := c.call(a, r)
	if !garden.Same(a, before) {
		t.Fatalf("%s changed the arena that it was handed", c.name)
	}
	if err == api.ErrFull {
		if !garden.Empty(b) || slices.Max(refs) != 0 {
			t.Fatalf("%s where none is free: %d nodes, %v", c.name, len(b.Nodes), refs)
		}
		return -1
	}
	if err != api.OK {
		t.Fatalf("%s: %d", c.name, err)
	}
	for i, ref := range refs {
		checkMap(t, b, ref, c.want[i])
	}
	checkMap(t, b, r, l)
	checkGrown(t, before, b, c.needOf())
	return free - len(b.Free)
}

// smallContents are what maps hold in whose arenas all numbers of free nodes are tried.
func smallContents() [][]api.Item {
	l := [][]api.Item{nil, garden.Items(5), garden.Items(1, 5, 9), garden.Items(999, 5), garden.From(10, 14, 1)}
	for n := range int64(9) {
		l = append(l, upTo(n), garden.From(20-n, 20+n, 1))
	}
	return l
}

// With just its need free, or more, a call is done. With fewer it is done if they are as many as it makes, and else tells that none is free; then all is as it was.
func TestNeed(t *testing.T) {
	for _, l := range smallContents() {
		for _, c := range changes(l) {
			need := c.needOf()
			makes := c.try(t, l, need)
			if makes < 0 || makes > need {
				t.Fatalf("%s makes %d nodes of %d", c.name, makes, need)
			}
			for free := range need + 3 {
				got := c.try(t, l, free)
				if free < makes && got != -1 || free >= makes && got != makes {
					t.Fatalf("%s of %v, with %d free: %d are made, not %d", c.name, l, free, got, makes)
				}
			}
		}
	}
}

func TestNeedOfMany(t *testing.T) {
	for _, l := range [][]api.Item{upTo(60), upTo(150), garden.Items(row(150, false)...), garden.Items(row(150, true)...)} {
		for _, c := range changes(l) {
			need := c.needOf()
			makes := c.try(t, l, need)
			if makes < 0 || makes > need {
				t.Fatalf("%s makes %d nodes of %d", c.name, makes, need)
			}
			if makes == 0 {
				continue
			}
			if got := c.try(t, l, makes); got != makes {
				t.Fatalf("%s with just as many free as it makes: %d", c.name, got)
			}
			for _, free := range []int{0, makes / 2, makes - 1} {
				if got := c.try(t, l, free); got != -1 {
					t.Fatalf("%s with %d free: %d are made", c.name, free, got)
				}
			}
		}
	}
}

// A path of as many nodes as the map has keys is copied as a whole.
func TestNeedOfARow(t *testing.T) {
	keys := row(150, false)
	l := garden.Items(keys[:149]...)
	if makes := putting(l, keys[149], 7).try(t, l, wants(150)); makes != 150 {
		t.Errorf("%d nodes are made of a path of 150", makes)
	}
	all := garden.Items(keys...)
	if makes := deleting(all, keys[149]).try(t, all, wants(149)); makes != 149 {
		t.Errorf("%d nodes are made of a path of 149", makes)
	}
}

// places are the places of the nodes of maps.
func places(t *testing.T, a api.Arena, refs ...api.Ref) []int {
	t.Helper()
	l, err := arena.Reach(a, refs...)
	if err != api.OK {
		t.Fatalf("Reach: %d", err)
	}
	slices.Sort(l)
	return l
}

// All nodes that a call makes are of its answer, and no more than those whose keys or values are not as they were.
func TestWhatIsMade(t *testing.T) {
	for _, l := range append(smallContents(), upTo(60), upTo(200)) {
		for _, c := range changes(l) {
			a, r := garden.Of(l, 511-len(l))
			b, refs, err := c.call(a, r)
			if err != api.OK {
				t.Fatalf("%s: %d", c.name, err)
			}
			was := places(t, b, r)
			isNew := slices.DeleteFunc(places(t, b, refs...), func(p int) bool { return slices.Contains(was, p) })
			if made := len(a.Free) - len(b.Free); made != len(isNew) {
				t.Fatalf("%s makes %d nodes, of which %d are its answer's", c.name, made, len(isNew))
			}
			for _, p := range isNew {
				n := b.Nodes[p]
				if slices.ContainsFunc(was, func(old int) bool { return garden.Alike(b, garden.At(p, n.Gen), b, garden.At(old, b.Nodes[old].Gen)) }) {
					t.Fatalf("%s of %v makes %v, which was there", c.name, l, n)
				}
			}
		}
	}
}

// Where no node is free: what needs one is not done, each time; what is not done for another cause tells that; what needs none is done.
func TestWhereNoneIsFree(t *testing.T) {
	a, r := garden.Of(upTo(200), 0)
	full := func(name string, err, want api.Errno) {
		t.Helper()
		if err != want {
			t.Errorf("%s: %d, not %d", name, err, want)
		}
	}
	_, _, err := treap.Put(a, r, 201, 1)
	full("Put of the 201st key", err, api.ErrRange)
	_, _, err = treap.Put(a, r, garden.Most+1, 1)
	full("Put of a key that is too great", err, api.ErrRange)
	_, _, err = treap.Put(a, r, -garden.Most-1, 1)
	full("Put of a key that is too small", err, api.ErrRange)
	_, _, err = treap.Put(a, 0, garden.Most+1, 1)
	full("Put of a key that is too great, in an empty map", err, api.ErrRange)
	_, _, err = treap.Put(a, 0, 5, 1)
	full("Put in an empty map", err, api.ErrFull)
	_, _, err = treap.Del(a, r, 201)
	full("Del of no key", err, api.ErrNone)
	_, _, err = treap.Del(a, 0, 5)
	full("Del in an empty map", err, api.ErrNone)
	_, _, err = treap.Join(a, r, r)
	full("Join of a map with itself", err, api.ErrRange)
	for key := int64(1); key <= 200; key++ {
		b, s, err := treap.Put(a, r, key, 1)
		full("Put of a key that is there", err, api.ErrFull)
		if !garden.Empty(b) || s != 0 {
			t.Errorf("beside ErrFull: %d nodes, %d", len(b.Nodes), s)
		}
	}
}

// Some calls make no node: these are done where none is free, and answer what was there.
func TestWhatMakesNone(t *testing.T) {
	a, r := garden.Of(upTo(20), 0)
	for _, key := range []int64{garden.Low, 0, 1, 21, 22, garden.Top} {
		b, low, high, err := treap.Split(a, r, key)
		if err != api.OK || !garden.Same(a, b) || key < 10 && (low != 0 || high != r) || key > 10 && (low != r || high != 0) {
			t.Errorf("Split %d: %d, %d, %d", key, low, high, err)
		}
	}
	for _, c := range [][2]api.Ref{{r, 0}, {0, r}} {
		if b, s, err := treap.Join(a, c[0], c[1]); err != api.OK || s != r || !garden.Same(a, b) {
			t.Errorf("Join %d, %d: %d, %d", c[0], c[1], s, err)
		}
	}
	leaf := garden.LeafOf(a)
	n, _ := arena.Get(a, leaf)
	if b, s, err := treap.Del(a, leaf, n.N); err != api.OK || s != 0 || !garden.Same(a, b) {
		t.Errorf("Del of the one key: %d, %d", s, err)
	}
}

// An arena of three nodes has three keys, each above all that were there; a fourth one finds no free node, and the three are read.
func TestThreeNodes(t *testing.T) {
	keys := row(3, false)
	a, _ := arena.New(3)
	var r api.Ref
	var err api.Errno
	var l []api.Item
	for i := range keys {
		key := keys[2-i]
		if a, r, err = treap.Put(a, r, key, 7); err != api.OK {
			t.Fatalf("Put %d: %d", key, err)
		}
		l = garden.With(l, key, 7)
	}
	if b, s, err := treap.Put(a, r, 0, 7); err != api.ErrFull || s != 0 || !garden.Empty(b) {
		t.Errorf("Put of the fourth key: %d nodes, %d, %d", len(b.Nodes), s, err)
	}
	checkMap(t, a, r, l)
}
