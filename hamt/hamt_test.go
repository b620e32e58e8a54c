package hamt_test

import (
	"math"
	"slices"
	"testing"

	"burgeon/api"
	"burgeon/arena"
	"burgeon/dice"
	"burgeon/garden"
	"burgeon/hamt"
)

func TestRight(t *testing.T) {
	for _, l := range garden.TableContents() {
		for _, free := range []int{0, 1, 30} {
			if a, r := garden.TableOf(l, free); !hamt.Right(a, r) {
				t.Errorf("the table of %v is none", l)
			}
		}
	}
}

// A node of a table is the top of one, too, if all of its keys are; a leaf always is.
func TestRightOfEachNode(t *testing.T) {
	for _, l := range [][]api.Item{upTo(200), allOf(garden.OneHash()), garden.Crowd()} {
		a, _ := garden.TableOf(l, 50)
		for i, n := range a.Nodes {
			r := garden.At(i, n.Gen)
			is := hamt.Right(a, r)
			if is != garden.IsTable(a, r) || n.Kind == api.KLeaf && !is {
				t.Errorf("the node %v: %v", n, is)
			}
		}
	}
}

// Right and the chapter's words agree on tables that are changed here and there.
func TestRightIsAsTold(t *testing.T) {
	d := dice.From(92)
	met := map[bool]int{}
	for i := range 4000 {
		l := upTo(int64(1 + d.UpTo(12)))
		if i%4 == 0 {
			l = garden.Items(garden.OneHash()[:1+d.UpTo(9)]...)
		}
		a, r := garden.TableOf(l, 0)
		for range 1 + d.UpTo(3) {
			a = garden.Spoiled(d, a)
		}
		got, want := hamt.Right(a, r), garden.IsTable(a, r)
		if got != want {
			t.Fatalf("Right %d of %v: %v", r, a, got)
		}
		met[got]++
	}
	if met[true] < 500 || met[false] < 500 {
		t.Errorf("%d tables and %d others are too few", met[true], met[false])
	}
}

func TestGetAndSize(t *testing.T) {
	crossed := garden.CrossKeys()
	for _, l := range garden.TableContents() {
		a, r := garden.TableOf(l, 7)
		before := garden.Clone(a)
		checkTable(t, a, r, l)
		checkGot(t, a, r, l, garden.Some(slices.Concat(garden.KeysOf(l), crossed), 150))
		if !garden.Same(a, before) {
			t.Fatal("a call changed the arena that it was handed")
		}
	}
}

// Each key of a table has its value, and none that is of its hash, or nearly, has.
func TestGetOfEachKey(t *testing.T) {
	crossed := garden.CrossKeys()
	for _, l := range [][]api.Item{upTo(200), garden.Crowd(), allOf(garden.OneHash()), allOf(garden.TopHash()[3:])} {
		a, r := garden.TableOf(l, 0)
		checkGot(t, a, r, l, garden.KeysOf(l))
		checkGot(t, a, r, l, crossed)
	}
}

// A value may be whatever number.
func TestGetOfValues(t *testing.T) {
	var l []api.Item
	for i, v := range []int64{0, 1, -1, garden.Most + 1, math.MaxInt64, math.MinInt64} {
		l = append(l, api.Item{K: int64(i), V: v})
	}
	a, r := garden.TableOf(l, 0)
	checkTable(t, a, r, l)
	checkGot(t, a, r, l, garden.KeysOf(l))
}

// 0 is the table of no key, in each arena that may be.
func TestNoKey(t *testing.T) {
	for _, size := range []int{1, 2, 512} {
		a, _ := arena.New(size)
		checkTable(t, a, 0, nil)
		for _, key := range garden.EdgeKeys() {
			deleting(key).check(t, nil)
			putting(key).check(t, nil)
		}
	}
	full, _ := garden.TableOf(upTo(20), 0)
	checkTable(t, full, 0, nil)
}

// One arena has many tables, and nodes of other kinds between.
func TestTablesBesideOthers(t *testing.T) {
	a := garden.Ground(400)
	var refs []api.Ref
	for i := range int64(5) {
		r := garden.PlantTable(&a, garden.From(10*i, 10*i+20, 1))
		refs = append(refs, r, garden.Plant(&a, garden.From(1, 3, 1)))
		garden.Write(&a, api.Node{Kind: int(5 + i), N: i, S: 7, Pre: 9, Suf: 9, Kids: [9]api.Ref{8: r}})
	}
	for i, r := range refs {
		if i%2 == 0 {
			checkTable(t, a, r, garden.From(5*int64(i), 5*int64(i)+20, 1))
		} else if hamt.Right(a, r) {
			t.Errorf("the map %d is a table", i)
		}
	}
}

// The nodes of a table, word by word as the chapter tells them: of one key, of two that part at the second level, and of three, of which two have one hash.
func TestNodes(t *testing.T) {
	a, _ := arena.New(60)
	a, r, err := hamt.Put(a, 0, 5, 8)
	if err != api.OK {
		t.Fatalf("Put: %d", err)
	}
	checkLeaf(t, a, r, 5, 8)
	other := garden.Sharing(5, 1)
	b, s, err := hamt.Put(a, r, other, 9)
	if err != api.OK {
		t.Fatalf("Put: %d", err)
	}
	top := checkBranch(t, b, s, api.KTrie, 2, garden.Digit(5, 0))
	next := checkBranch(t, b, top[garden.Digit(5, 0)], api.KTrie, 2, garden.Digit(5, 1), garden.Digit(other, 1))
	checkLeaf(t, b, next[garden.Digit(5, 1)], 5, 8)
	checkLeaf(t, b, next[garden.Digit(other, 1)], other, 9)

	same := garden.OneHash()[4]
	b, s, err = hamt.Put(b, s, same, 10)
	if err != api.OK {
		t.Fatalf("Put: %d", err)
	}
	top = checkBranch(t, b, s, api.KTrie, 3, garden.Digit(5, 0))
	kids := checkBranch(t, b, top[garden.Digit(5, 0)], api.KTrie, 3, garden.Digit(5, 1), garden.Digit(other, 1))
	checkLeaf(t, b, kids[garden.Digit(other, 1)], other, 9)
	for level := 2; level < 10; level++ {
		kids = checkBranch(t, b, kids[garden.Digit(5, level-1)], api.KTrie, 2, garden.Digit(5, level))
	}
	clash := checkBranch(t, b, kids[garden.Digit(5, 9)], api.KClash, 2, 0, 1)
	checkLeaf(t, b, clash[0], same, 10)
	checkLeaf(t, b, clash[1], 5, 8)
}

// checkBranch holds a node against what it must be, and hands on its kids: all but those at some places are 0.
func checkBranch(t *testing.T, a api.Arena, r api.Ref, kind int, size int64, at ...int) [9]api.Ref {
	t.Helper()
	n, err := arena.Get(a, r)
	want := api.Node{Kind: kind, Gen: n.Gen, S: size}
	for _, i := range at {
		want.Kids[i] = n.Kids[i]
		if n.Kids[i] == 0 {
			t.Fatalf("%v has no kid at %d", n, i)
		}
	}
	if err != api.OK || n != want {
		t.Fatalf("%v, not %v: %d", n, want, err)
	}
	return n.Kids
}

// checkLeaf holds a node against a leaf.
func checkLeaf(t *testing.T, a api.Arena, r api.Ref, key, v int64) {
	t.Helper()
	n, err := arena.Get(a, r)
	if want := (api.Node{Kind: api.KLeaf, Gen: n.Gen, N: key, V: v}); err != api.OK || n != want {
		t.Fatalf("%v, not %v: %d", n, want, err)
	}
}
