package ref_test

import (
	"math"
	"testing"

	"burgeon/api"
	"burgeon/ref"
)

// greatest is the greatest reference that may be: of place 511 and generation 2^20.
const greatest = 1<<36 + 512

// edges are generations at the edges, and some between them.
var edges = []int{0, 1, 2, 3, 255, 256, 511, 512, 513, 65535, 65536, 65537, 1<<20 - 1, 1 << 20}

func TestOf(t *testing.T) {
	for _, c := range []struct {
		place, gen int
		want       api.Ref
	}{
		{2, 1, 65539},
		{0, 0, 1},
		{1, 0, 2},
		{511, 0, 512},
		{0, 1, 65537},
		{511, 1, 66048},
		{0, 2, 131073},
		{7, 65536, 1<<32 + 8},
		{0, 1<<20 - 1, 1<<36 - 65536 + 1},
		{0, 1 << 20, 1<<36 + 1},
		{511, 1 << 20, greatest},
	} {
		if r, err := ref.Of(c.place, c.gen); r != c.want || err != api.OK {
			t.Errorf("Of %d, %d: %d, %d", c.place, c.gen, r, err)
		}
	}
}

func TestOfWhatMayNotBe(t *testing.T) {
	for _, c := range []struct{ place, gen int }{
		{-1, 0}, {-1, 1}, {-1, 1 << 20}, {512, 0}, {512, 1}, {512, 1 << 20}, {513, 0},
		{65535, 0}, {65536, 0}, {-65536, 1}, {1 << 32, 0}, {math.MinInt, 0}, {math.MaxInt, 0},
		{0, -1}, {511, -1}, {0, 1<<20 + 1}, {511, 1<<20 + 1}, {0, 1 << 21}, {0, 1 << 32}, {0, 1 << 48},
		{0, math.MinInt}, {0, math.MaxInt}, {-1, -1}, {512, 1<<20 + 1}, {-1, 1<<20 + 1}, {512, -1},
		{math.MinInt, math.MinInt}, {math.MaxInt, math.MaxInt},
	} {
		if r, err := ref.Of(c.place, c.gen); r != 0 || err != api.ErrArg {
			t.Errorf("Of %d, %d: %d, %d", c.place, c.gen, r, err)
		}
	}
}

func TestOfNode(t *testing.T) {
	for _, c := range []struct {
		r          api.Ref
		place, gen int
	}{
		{1, 0, 0},
		{2, 1, 0},
		{511, 510, 0},
		{512, 511, 0},
		{65537, 0, 1},
		{65539, 2, 1},
		{66048, 511, 1},
		{131073, 0, 2},
		{1<<32 + 1, 0, 65536},
		{1<<35 + 512, 511, 1 << 19},
		{1<<36 - 65536 + 512, 511, 1<<20 - 1},
		{1<<36 + 1, 0, 1 << 20},
		{greatest, 511, 1 << 20},
	} {
		if place, gen, right := ref.Place(c.r), ref.Gen(c.r), ref.Right(c.r); place != c.place || gen != c.gen || !right {
			t.Errorf("of %d: place %d, generation %d, right %v", c.r, place, gen, right)
		}
	}
}

// 0 may be, but is no node's; the others may not be.
func TestOfNoNode(t *testing.T) {
	for _, r := range []api.Ref{
		0, 513, 514, 1024, 32768, 65535, 65536, 65536 + 513, 131071, 131072, 1 << 32, 1<<32 + 513, 1 << 36,
		greatest + 1, greatest + 2, 1<<36 + 65535, 1<<36 + 65536, 1<<36 + 65537, 1<<36 + 65536 + 512,
		1<<37 + 1, 1<<40 + 1, 1<<63 + 1, math.MaxInt64, 1 << 63, math.MaxUint64 - 65535 + 1, math.MaxUint64,
	} {
		if place, gen, right := ref.Place(r), ref.Gen(r), ref.Right(r); place != -1 || gen != 0 || right != (r == 0) {
			t.Errorf("of %d: place %d, generation %d, right %v", r, place, gen, right)
		}
	}
}

// Each place with each of some generations is got back, and no two have one reference.
func TestThereAndBack(t *testing.T) {
	seen := map[api.Ref]int{}
	for place := range 512 {
		for _, gen := range edges {
			r, err := ref.Of(place, gen)
			if err != api.OK || !ref.Right(r) || ref.Place(r) != place || ref.Gen(r) != gen {
				t.Fatalf("Of %d, %d: %d, %d, of place %d, generation %d", place, gen, r, err, ref.Place(r), ref.Gen(r))
			}
			seen[r]++
		}
	}
	if len(seen) != 512*len(edges) {
		t.Errorf("%d references of %d places with generations", len(seen), 512*len(edges))
	}
}

// Every reference near the edges either tells a place and a generation that lead back to it, or may not be.
func TestBackAndThere(t *testing.T) {
	for _, gen := range append(edges, 1<<20+1, 1<<20+2) {
		may := 0
		for low := range 65536 {
			r := api.Ref(gen)<<16 + api.Ref(low)
			place := ref.Place(r)
			if place < 0 {
				if ref.Right(r) != (r == 0) || place != -1 || ref.Gen(r) != 0 {
					t.Fatalf("of %d: place %d, generation %d, right %v", r, place, ref.Gen(r), ref.Right(r))
				}
				continue
			}
			may++
			if back, err := ref.Of(place, ref.Gen(r)); back != r || err != api.OK || !ref.Right(r) {
				t.Fatalf("of %d: place %d, generation %d, which are %d's", r, place, ref.Gen(r), back)
			}
		}
		if gen <= 1<<20 && may != 512 || gen > 1<<20 && may != 0 {
			t.Errorf("generation %d has %d references", gen, may)
		}
	}
}
