package garden_test

import (
	"slices"
	"testing"

	"burgeon/api"
	"burgeon/arena"
	"burgeon/garden"
)

func TestGrown(t *testing.T) {
	before, _ := garden.Of(garden.From(1, 5, 1), 5)
	a := garden.Clone(before)
	if made, is := garden.Grown(before, a); made != 0 || !is {
		t.Errorf("the same arena: %d, %v", made, is)
	}
	garden.Write(&a, garden.Stone())
	garden.Write(&a, garden.Stone())
	if made, is := garden.Grown(before, a); made != 2 || !is {
		t.Errorf("two nodes more: %d, %v", made, is)
	}
	if _, is := garden.Grown(a, before); is {
		t.Error("two nodes less")
	}
	stone := garden.PlaceIn(garden.StoneOf(before))
	for i, change := range []func(a *api.Arena){
		func(a *api.Arena) { a.Nodes[stone].V++ },
		func(a *api.Arena) { a.Nodes[stone].Gen ^= 1 },
		func(a *api.Arena) { a.Nodes[a.Free[0]].Gen ^= 1 },
		func(a *api.Arena) { slices.Reverse(a.Free) },
		func(a *api.Arena) { a.Free = a.Free[1:] },
		func(a *api.Arena) { a.Nodes = append(a.Nodes, garden.Stone()) },
		func(a *api.Arena) { *a = api.Arena{} },
		func(a *api.Arena) { *a, _ = arena.Drop(*a, stone) },
	} {
		b := garden.Clone(a)
		change(&b)
		if _, is := garden.Grown(before, b); is {
			t.Errorf("the change %d is not seen", i)
		}
	}
}

func TestAlike(t *testing.T) {
	a, r := garden.Of(garden.From(1, 20, 1), 0)
	b, s := garden.Of(garden.From(1, 20, 1), 9)
	if !garden.Alike(a, r, b, s) || !garden.Alike(a, 0, b, 0) {
		t.Error("like maps are not")
	}
	if garden.Alike(a, r, b, 0) || garden.Alike(a, 0, b, s) || garden.Alike(a, 0, b, garden.At(511, 0)) {
		t.Error("a map is like none")
	}
	for place, n := range b.Nodes {
		if n.Kind == api.KTreap {
			c := garden.Clone(b)
			c.Nodes[place].V++
			if garden.Alike(a, r, c, s) {
				t.Errorf("another value at %d is not seen", place)
			}
		}
	}
}

func TestTidied(t *testing.T) {
	a, r := garden.Of(garden.From(1, 20, 1), 5)
	b := garden.Tidied(a, r)
	if len(b.Free) != 6 || !garden.Alike(a, r, b, r) {
		t.Errorf("%d are free", len(b.Free))
	}
	if b = garden.Tidied(a, garden.StoneOf(a)); len(b.Free) != 25 {
		t.Errorf("%d are free", len(b.Free))
	}
}

// Calls that share what they are handed are told, and those that share nothing are not.
func TestShared(t *testing.T) {
	plant := func() (api.Arena, api.Ref) { return garden.Of(garden.From(1, 5, 1), 5) }
	one := func(change func(a api.Arena) api.Arena) func(api.Arena, api.Ref) []api.Arena {
		return func(a api.Arena, _ api.Ref) []api.Arena { return []api.Arena{garden.Clone(a), change(a)} }
	}
	for i, change := range []func(a api.Arena) api.Arena{
		garden.Clone,
		func(api.Arena) api.Arena { return api.Arena{} },
	} {
		if what := garden.Shared(plant, one(change)); what != "" {
			t.Errorf("calls %d: %s", i, what)
		}
	}
	for i, change := range []func(a api.Arena) api.Arena{
		func(a api.Arena) api.Arena { return a },
		func(a api.Arena) api.Arena { return api.Arena{Nodes: a.Nodes, Free: slices.Clone(a.Free)} },
		func(a api.Arena) api.Arena { return api.Arena{Nodes: slices.Clone(a.Nodes), Free: a.Free} },
		func(a api.Arena) api.Arena { return api.Arena{Nodes: slices.Clone(a.Nodes), Free: a.Free[:0]} },
		func(a api.Arena) api.Arena { a.Nodes[2].V++; return garden.Clone(a) },
		func(a api.Arena) api.Arena { a.Free[2]++; return garden.Clone(a) },
		func(a api.Arena) api.Arena { _ = append(a.Free, 7); return garden.Clone(a) },
		func(a api.Arena) api.Arena { _ = append(a.Nodes, api.Node{}); return garden.Clone(a) },
	} {
		if garden.Shared(plant, one(change)) == "" {
			t.Errorf("what calls %d share is not told", i)
		}
	}
}

func TestItems(t *testing.T) {
	l := garden.Items(1, 5, 9)
	if got := garden.With(l, 3, 7); !slices.Equal(got, []api.Item{l[0], {K: 3, V: 7}, l[1], l[2]}) {
		t.Errorf("With 3: %v", got)
	}
	if got := garden.With(l, 5, 7); !slices.Equal(got, []api.Item{l[0], {K: 5, V: 7}, l[2]}) {
		t.Errorf("With 5: %v", got)
	}
	if got := garden.Without(l, 5); !slices.Equal(got, []api.Item{l[0], l[2]}) || garden.Has(got, 5) || !garden.Has(got, 9) {
		t.Errorf("Without 5: %v", got)
	}
	if !slices.Equal(l, garden.Items(1, 5, 9)) {
		t.Errorf("the items are changed: %v", l)
	}
}

func TestOrders(t *testing.T) {
	met := map[[4]int64]int{}
	keys := []int64{1, 5, 9, 11}
	garden.Orders(keys, func(order []int64) { met[[4]int64(order)]++ })
	if len(met) != 24 || !slices.Equal(keys, []int64{1, 5, 9, 11}) {
		t.Errorf("%d orders, of %v", len(met), keys)
	}
}
