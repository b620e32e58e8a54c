package mix_test

import (
	"cmp"
	"math"
	"slices"
	"testing"

	"burgeon/dice"
	"burgeon/mix"
)

// edgeKeys are keys at the edges, in the order of their ranks.
var edgeKeys = []int64{-7, 3, 0, 4, 5, -6, 2, math.MaxInt64, -8, -2, -3, 1 << 30, -1 << 30, -1, 1, -9, math.MinInt64}

func TestRankAndHash(t *testing.T) {
	for _, c := range []struct {
		key  int64
		rank uint64
		hash int
	}{
		{0, 1346066267577507604, 515860},
		{1, 15378420243238726120, 764392},
		{2, 9398003893131893463, 875223},
		{5, 4016745674725997500, 80828},
		{-1, 15093541023163888492, 537452}, // from here to -7 the sum passes 2^64
		{-2, 13168350753275463132, 738780},
		{-6, 6238072747940578789, 722405},
		{-7, 0, 0},
		{-8, 13029008266876403067, 769403}, // the sum is 2^64 - 1
		{-9, 15719503542151743746, 198914},
		{1 << 30, 13554290763192931102, 594718},
		{-1 << 30, 14292756632261870254, 246446},
		{math.MaxInt64, 10917415928570134880, 868704}, // here, and down to the next but one, the sum passes 2^63
		{math.MaxInt64 - 6, 2720858781877447050, 960906},
		{math.MaxInt64 - 7, 6514504133438201533, 384701},
		{math.MinInt64, 17269066681482095964, 404828},
		{math.MinInt64 + 1, 18244171291504643998, 233374},
	} {
		if rank, hash := mix.Rank(c.key), mix.Hash(c.key); rank != c.rank || hash != c.hash {
			t.Errorf("of %d: rank %d, hash %d", c.key, rank, hash)
		}
	}
}

// someKeys are some hundred keys, none twice.
func someKeys() []int64 {
	d := dice.From(11)
	keys := slices.Clone(edgeKeys)
	for n := range int64(150) {
		keys = append(keys, n, -n, 1<<30-n, -1<<30+n, math.MaxInt64-n, math.MinInt64+n)
		keys = append(keys, int64(d.UpTo(1<<30)), -int64(d.UpTo(1<<30)), int64(d.UpTo(1<<31))<<32)
	}
	slices.Sort(keys)
	return slices.Compact(keys)
}

func TestRankIsAsTold(t *testing.T) {
	of := map[uint64]int64{}
	for _, key := range someKeys() {
		rank := mix.Rank(key)
		if want := mixedAsTold(uint64(key) + 7); rank != want {
			t.Fatalf("Rank %d: %d, not %d", key, rank, want)
		}
		if other, met := of[rank]; met {
			t.Fatalf("of %d and of %d: %d", other, key, rank)
		}
		of[rank] = key
	}
}

// A hash is of 20 bits, each of which is as often there as not.
func TestHashIsTheLowestBits(t *testing.T) {
	keys := someKeys()
	var ones [20]int
	for _, key := range keys {
		hash := mix.Hash(key)
		if hash < 0 || hash >= 1<<20 || uint64(hash) != mixedAsTold(uint64(key)+7)&0xfffff {
			t.Fatalf("Hash %d: %d", key, hash)
		}
		for bit := range ones {
			ones[bit] += hash >> bit & 1
		}
	}
	for bit, n := range ones {
		if n < len(keys)/3 || n > len(keys)*2/3 {
			t.Errorf("bit %d is there %d times of %d", bit, n, len(keys))
		}
	}
}

// Keys may have one hash, though they have never one rank.
func TestHashesThatAreAlike(t *testing.T) {
	for _, c := range []struct {
		a, b int64
		hash int
	}{{228, 772, 361595}, {341, 1526, 1004773}, {2723, 2760, 474910}} {
		if a, b := mix.Hash(c.a), mix.Hash(c.b); a != c.hash || b != c.hash {
			t.Errorf("of %d: %d; of %d: %d", c.a, a, c.b, b)
		}
		if mix.Rank(c.a) == mix.Rank(c.b) || mix.Before(c.a, c.b) == mix.Before(c.b, c.a) {
			t.Errorf("%d and %d are told apart by their hashes alone", c.a, c.b)
		}
	}
}

func TestBefore(t *testing.T) {
	for i, a := range edgeKeys {
		for j, b := range edgeKeys {
			if got := mix.Before(a, b); got != (i < j) {
				t.Errorf("Before %d, %d: %v", a, b, got)
			}
		}
	}
}

func TestJustOneIsBeforeTheOther(t *testing.T) {
	keys := someKeys()
	for _, a := range keys {
		if mix.Before(a, a) {
			t.Fatalf("%d is Before itself", a)
		}
		for _, b := range keys {
			if a != b && mix.Before(a, b) == mix.Before(b, a) {
				t.Fatalf("Before %d, %d, and the other way round: %v", a, b, mix.Before(a, b))
			}
		}
	}
}

// Sorted by rank, each key is Before all that come behind it.
func TestBeforeIsOneOrder(t *testing.T) {
	keys := someKeys()
	slices.SortFunc(keys, func(a, b int64) int {
		return cmp.Compare(mixedAsTold(uint64(a)+7), mixedAsTold(uint64(b)+7))
	})
	for i, a := range keys {
		for _, b := range keys[i+1:] {
			if !mix.Before(a, b) {
				t.Fatalf("%d is not Before %d", a, b)
			}
		}
	}
}
