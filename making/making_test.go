package making_test

import (
	"testing"

	"burgeon/api"
	"burgeon/arena"
	"burgeon/garden"
	"burgeon/making"
)

// What is made is got, and the arena that was handed in stays as it is.
func TestMake(t *testing.T) {
	a := garden.Ground(2)
	before := garden.Clone(a)
	m := making.Of(a)
	first, second := m.Make(api.Node{Kind: 1, N: 5}), m.Make(api.Node{Kind: 2, N: 6})
	b, r, err := m.Answer(second)
	if r != second || err != api.OK || len(b.Free) != 0 {
		t.Fatalf("Answer: %d, %d, and %d are free", r, err, len(b.Free))
	}
	for i, r := range []api.Ref{first, second} {
		if n, err := arena.Get(b, r); n.Kind != 1+i || n.N != int64(5+i) || err != api.OK {
			t.Errorf("the node %d: %v, %d", i, n, err)
		}
	}
	if !garden.Same(a, before) {
		t.Error("the arena that was handed in is changed")
	}
}

// One node that finds none free is enough: the answer is an error, whatever is made behind it.
func TestMakeWhereNoneIsFree(t *testing.T) {
	m := making.Of(garden.Ground(1))
	first, second, third := m.Make(api.Node{Kind: 1}), m.Make(api.Node{Kind: 1}), m.Make(api.Node{Kind: 1})
	if first == 0 || second != 0 || third != 0 || m.Err != api.ErrFull {
		t.Errorf("%d, %d, %d, %d", first, second, third, m.Err)
	}
	if b, r, err := m.Answer(first); len(b.Nodes)+len(b.Free) != 0 || r != 0 || err != api.ErrFull {
		t.Errorf("Answer: %v, %d, %d", b, r, err)
	}
}

// An answer is new memory, though nothing was made.
func TestAnswerIsNewMemory(t *testing.T) {
	a := garden.Ground(3)
	want := garden.Clone(a)
	b, r, err := making.Of(a).Answer(7)
	if !garden.Same(a, b) || r != 7 || err != api.OK {
		t.Fatalf("Answer: %v, %d, %d", b, r, err)
	}
	b.Nodes[0], b.Free[0] = garden.Stone(), 99
	if !garden.Same(a, want) {
		t.Error("the answer is the memory that was handed in")
	}
}
