package word_test

import (
	"math"
	"slices"
	"testing"

	"burgeon/api"
	"burgeon/word"
)

const top = math.MaxUint64

// kinds are all kinds of steps.
var kinds = []int{api.SLoad, api.SStore, api.SCas, api.SAdd}

// row makes n words, each unlike the others and unlike 0.
func row(n int) []uint64 {
	var m []uint64
	for i := range n {
		m = append(m, uint64(100+i))
	}
	return m
}

// wrongPlace is words that may not be, or that have no word of the place.
type wrongPlace struct {
	name string
	m    []uint64
	at   int
}

func wrongPlaces() []wrongPlace {
	return []wrongPlace{
		{"nil words", nil, 0},
		{"empty words", []uint64{}, 0},
		{"nil words, below 0", nil, -1},
		{"below 0", row(2), -1},
		{"far below 0", row(2), math.MinInt},
		{"behind the last", row(2), 2},
		{"behind the last, within the capacity", row(4)[:2], 2},
		{"far behind the last", row(2), math.MaxInt},
		{"a multiple of 2^32", row(2), 1 << 32},
		{"64 words, behind the last", row(64), 64},
		{"65 words, the first", row(65), 0},
		{"65 words, the last", row(65), 64},
		{"4000 words", row(4000), 7},
	}
}

func TestRight(t *testing.T) {
	for n, want := range map[int]bool{0: true, 1: true, 2: true, 63: true, 64: true, 65: false, 66: false, 128: false, 1000: false} {
		if got := word.Right(row(n)); got != want {
			t.Errorf("Right of %d words: %v", n, got)
		}
	}
	if !word.Right([]uint64{}) || !word.Right(row(65)[:64]) {
		t.Error("Right looks at more than the length")
	}
}

func TestLoad(t *testing.T) {
	for _, n := range []int{1, 2, 64} {
		for at := range n {
			if v, err := word.Load(row(n), at); v != uint64(100+at) || err != api.OK {
				t.Errorf("Load of %d words at %d: %d, %d", n, at, v, err)
			}
		}
	}
	if v, err := word.Load([]uint64{top}, 0); v != top || err != api.OK {
		t.Errorf("Load of the greatest word: %d, %d", v, err)
	}
}

func TestStore(t *testing.T) {
	for _, n := range []int{1, 2, 64} {
		for at := range n {
			for _, v := range []uint64{0, 1, top} {
				want := row(n)
				want[at] = v
				if got, err := word.Store(row(n), at, v); err != api.OK || !slices.Equal(got, want) {
					t.Errorf("Store of %d words at %d: %v, %d", n, at, got, err)
				}
			}
		}
	}
}

func TestCas(t *testing.T) {
	for _, c := range []struct {
		m      []uint64
		at     int
		old, v uint64
		want   []uint64
		done   bool
	}{
		{[]uint64{5, 7}, 1, 7, 9, []uint64{5, 9}, true},
		{[]uint64{5, 7}, 0, 5, 9, []uint64{9, 7}, true},
		{[]uint64{5, 7}, 1, 8, 9, []uint64{5, 7}, false},
		{[]uint64{5, 7}, 1, 5, 9, []uint64{5, 7}, false}, // there, but at another place
		{[]uint64{5, 7}, 1, 8, 7, []uint64{5, 7}, false}, // the new one is there, the old one is not
		{[]uint64{5, 7}, 1, 7, 7, []uint64{5, 7}, true},  // done, though nothing changes
		{[]uint64{0}, 0, 0, top, []uint64{top}, true},
		{[]uint64{top}, 0, top, 0, []uint64{0}, true},
		{[]uint64{1 << 63}, 0, 0, 1, []uint64{1 << 63}, false}, // all 64 bits are held against each other
		{[]uint64{1 << 32}, 0, 0, 1, []uint64{1 << 32}, false},
	} {
		if got, done, err := word.Cas(c.m, c.at, c.old, c.v); err != api.OK || done != c.done || !slices.Equal(got, c.want) {
			t.Errorf("Cas of %v at %d of %d, %d: %v, %v, %d", c.m, c.at, c.old, c.v, got, done, err)
		}
	}
	want := row(64)
	want[63] = 1
	if got, done, err := word.Cas(row(64), 63, 163, 1); err != api.OK || !done || !slices.Equal(got, want) {
		t.Errorf("Cas at the last of 64: %v, %v, %d", got, done, err)
	}
}

func TestAdd(t *testing.T) {
	for _, c := range []struct{ there, v, sum uint64 }{
		{5, 3, 8},
		{5, 0, 5},
		{0, top, top},
		{top, 1, 0}, // 2^64 just
		{top, 2, 1},
		{top, top, top - 1},
		{1 << 63, 1 << 63, 0},
		{8, top, 7}, // 2^64 - 1 takes one off
	} {
		got, before, err := word.Add([]uint64{1, c.there, 2}, 1, c.v)
		if err != api.OK || before != c.there || !slices.Equal(got, []uint64{1, c.sum, 2}) {
			t.Errorf("Add of %d to %d: %v, %d, %d", c.v, c.there, got, before, err)
		}
	}
	want := row(64)
	want[63] = 164
	if got, before, err := word.Add(row(64), 63, 1); err != api.OK || before != 163 || !slices.Equal(got, want) {
		t.Errorf("Add at the last of 64: %v, %d, %d", got, before, err)
	}
}

func TestDo(t *testing.T) {
	for _, c := range []struct {
		s      api.Step
		want   []uint64
		answer uint64
	}{
		{api.Step{Kind: api.SLoad, At: 1}, []uint64{5, 7}, 7},
		{api.Step{Kind: api.SLoad, At: 0, A: 3, B: 4}, []uint64{5, 7}, 5}, // its values mean nothing
		{api.Step{Kind: api.SStore, At: 1, A: 9}, []uint64{5, 9}, 0},
		{api.Step{Kind: api.SStore, At: 0, A: 9, B: 4}, []uint64{9, 7}, 0},
		{api.Step{Kind: api.SStore, At: 1, A: 7}, []uint64{5, 7}, 0},
		{api.Step{Kind: api.SCas, At: 1, A: 7, B: 9}, []uint64{5, 9}, 1},
		{api.Step{Kind: api.SCas, At: 1, A: 7, B: 7}, []uint64{5, 7}, 1},
		{api.Step{Kind: api.SCas, At: 1, A: 8, B: 9}, []uint64{5, 7}, 0},
		{api.Step{Kind: api.SCas, At: 0, A: 9, B: 5}, []uint64{5, 7}, 0},
		{api.Step{Kind: api.SAdd, At: 1, A: 3}, []uint64{5, 10}, 7},
		{api.Step{Kind: api.SAdd, At: 0, A: top, B: 4}, []uint64{4, 7}, 5},
	} {
		if got, answer, err := word.Do([]uint64{5, 7}, c.s); err != api.OK || answer != c.answer || !slices.Equal(got, c.want) {
			t.Errorf("Do of %v: %v, %d, %d", c.s, got, answer, err)
		}
	}
}

func TestDoWrongKind(t *testing.T) {
	for _, kind := range []int{0, 5, 6, 7, 8, 9, -1, -4, 257, 1<<32 + 1, math.MinInt, math.MaxInt} {
		for _, at := range []int{0, 1, 2, -1} {
			got, answer, err := word.Do([]uint64{5, 7}, api.Step{Kind: kind, At: at, A: 5, B: 9})
			if err != api.ErrArg || answer != 0 || len(got) != 0 {
				t.Errorf("Do of kind %d at %d: %v, %d, %d", kind, at, got, answer, err)
			}
		}
	}
}

func TestWrongPlaces(t *testing.T) {
	for _, c := range wrongPlaces() {
		if v, err := word.Load(c.m, c.at); v != 0 || err != api.ErrArg {
			t.Errorf("%s: Load: %d, %d", c.name, v, err)
		}
		if got, err := word.Store(c.m, c.at, 9); len(got) != 0 || err != api.ErrArg {
			t.Errorf("%s: Store: %v, %d", c.name, got, err)
		}
		for _, old := range []uint64{0, 100, 107, 164} {
			if got, done, err := word.Cas(c.m, c.at, old, 9); len(got) != 0 || done || err != api.ErrArg {
				t.Errorf("%s: Cas of %d: %v, %v, %d", c.name, old, got, done, err)
			}
		}
		if got, before, err := word.Add(c.m, c.at, 9); len(got) != 0 || before != 0 || err != api.ErrArg {
			t.Errorf("%s: Add: %v, %d, %d", c.name, got, before, err)
		}
		for _, kind := range kinds {
			if got, answer, err := word.Do(c.m, api.Step{Kind: kind, At: c.at, A: 100, B: 9}); len(got) != 0 || answer != 0 || err != api.ErrArg {
				t.Errorf("%s: Do of kind %d: %v, %d, %d", c.name, kind, got, answer, err)
			}
		}
	}
}

// values are some that words and steps have, the edges among them.
var values = []uint64{0, 1, 2, 100, 101, 163, 1 << 63, top}

// eachStep hands on each kind's step at each place of words, with some values.
func eachStep(n int, try func(api.Step)) {
	for _, kind := range kinds {
		for at := range n {
			for _, a := range values {
				for _, b := range values {
					try(api.Step{Kind: kind, At: at, A: a, B: b})
				}
			}
		}
	}
}

func TestStepChangesNoOtherWord(t *testing.T) {
	for _, n := range []int{1, 2, 3, 64} {
		eachStep(n, func(s api.Step) {
			got, _, err := word.Do(row(n), s)
			if err != api.OK || len(got) != n {
				t.Fatalf("Do of %d words, %v: %v, %d", n, s, got, err)
			}
			for i, v := range row(n) {
				if i != s.At && got[i] != v {
					t.Fatalf("Do of %d words, %v: word %d is %d", n, s, i, got[i])
				}
			}
		})
	}
}

func TestStoredIsLoaded(t *testing.T) {
	for _, n := range []int{1, 2, 64} {
		for at := range n {
			for _, v := range values {
				m, _ := word.Store(row(n), at, v)
				if got, err := word.Load(m, at); got != v || err != api.OK {
					t.Errorf("%d was stored at %d of %d words: %d, %d", v, at, n, got, err)
				}
			}
		}
	}
}

func TestOfTwoCasOneIsDone(t *testing.T) {
	for at := range 3 {
		for _, old := range values {
			for _, v := range values {
				m, _ := word.Store(row(3), at, old)
				m, first, _ := word.Cas(m, at, old, v)
				m, second, _ := word.Cas(m, at, old, v)
				if !first || second != (old == v) || m[at] != v {
					t.Errorf("two Cas of %d, %d at %d: %v, %v, %v", old, v, at, first, second, m)
				}
			}
		}
	}
}

func TestDoIsTheOtherCalls(t *testing.T) {
	eachStep(3, func(s api.Step) {
		m := []uint64{0, 100, top}
		got, answer, err := word.Do(m, s)
		want, told := m, uint64(0)
		switch s.Kind {
		case api.SLoad:
			told, _ = word.Load(m, s.At)
		case api.SStore:
			want, _ = word.Store(m, s.At, s.A)
		case api.SCas:
			var done bool
			if want, done, _ = word.Cas(m, s.At, s.A, s.B); done {
				told = 1
			}
		case api.SAdd:
			want, told, _ = word.Add(m, s.At, s.A)
		}
		if err != api.OK || answer != told || !slices.Equal(got, want) {
			t.Fatalf("Do of %v: %v, %d, %d; the call: %v, %d", s, got, answer, err, want, told)
		}
	})
}

// TestNoCallChangesItsWords: not behind their length either, where an answer could be laid.
func TestNoCallChangesItsWords(t *testing.T) {
	whole := row(70)
	check := func(call string, n, at int) {
		t.Helper()
		if !slices.Equal(whole, row(70)) {
			t.Fatalf("%s of %d words at %d changed them: %v", call, n, at, whole)
		}
	}
	for _, n := range []int{0, 1, 3, 64, 65} {
		m := whole[:n]
		for at := -1; at <= n; at++ {
			word.Right(m)
			word.Load(m, at)
			word.Store(m, at, 9)
			check("Store", n, at)
			word.Cas(m, at, uint64(100+at), 9)
			check("Cas, done", n, at)
			word.Cas(m, at, 0, 9)
			check("Cas, not done", n, at)
			word.Add(m, at, 9)
			check("Add", n, at)
			for kind := range 6 {
				word.Do(m, api.Step{Kind: kind, At: at, A: uint64(100 + at), B: 9})
				check("Do", n, at)
			}
		}
	}
}

// TestAnswersAreNewWords: who changes an answer changes neither what was handed in nor another answer.
func TestAnswersAreNewWords(t *testing.T) {
	for _, kind := range kinds {
		m := row(3)
		s := api.Step{Kind: kind, At: 1, A: 101, B: 9}
		first, _, _ := word.Do(m, s)
		second, _, _ := word.Do(m, s)
		want := slices.Clone(second)
		clear(first)
		if !slices.Equal(m, row(3)) || !slices.Equal(second, want) {
			t.Errorf("kind %d: an answer shares its words", kind)
		}
	}
	m := row(3)
	if got, _, _ := word.Cas(m, 1, 0, 9); len(got) == 3 {
		clear(got)
	}
	if !slices.Equal(m, row(3)) {
		t.Error("Cas that is not done answers the words that it was handed")
	}
}

func TestNothingIsKept(t *testing.T) {
	for range 3 {
		if got, before, err := word.Add([]uint64{5, 7}, 0, 3); err != api.OK || before != 5 || !slices.Equal(got, []uint64{8, 7}) {
			t.Errorf("Add, again: %v, %d, %d", got, before, err)
		}
		if got, done, err := word.Cas([]uint64{5, 7}, 1, 7, 9); err != api.OK || !done || !slices.Equal(got, []uint64{5, 9}) {
			t.Errorf("Cas, again: %v, %v, %d", got, done, err)
		}
	}
}
