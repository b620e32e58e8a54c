package machine_test

import (
	"math"
	"reflect"
	"slices"
	"testing"

	"burgeon/api"
	"burgeon/machine"
)

const top = math.MaxUint64

// words makes n words, each unlike the others and unlike 0.
func words(n int) []uint64 {
	var m []uint64
	for i := range n {
		m = append(m, uint64(100+i))
	}
	return m
}

// with is 64 words as words makes them, with v at a place.
func with(at int, v uint64) []uint64 {
	m := words(64)
	m[at] = v
	return m
}

// ends is a program of n instructions that end.
func ends(n int) []api.Instr {
	return slices.Repeat([]api.Instr{{Kind: 8}}, n)
}

// sets is a program of n instructions that set register 0 to 1, 2 and so on.
func sets(n int) []api.Instr {
	var prog []api.Instr
	for i := range n {
		prog = append(prog, api.Instr{Kind: 5, A: uint64(i + 1)})
	}
	return prog
}

// procs are n processes that may be.
func procs(n int) []api.Proc {
	var l []api.Proc
	for range n {
		l = append(l, api.Proc{Prog: sets(3)})
	}
	return l
}

// same holds processes against each other; a nil program counts as an empty one.
func same(p, q api.Proc) bool {
	prog := slices.Equal(p.Prog, q.Prog)
	p.Prog, q.Prog = nil, nil
	return prog && reflect.DeepEqual(p, q)
}

// refused is a process that may not be, or that just may.
type refused struct {
	name string
	p    api.Proc
	may  bool
}

// places are processes whose program, place and count of steps lie at the edges.
func places() []refused {
	return []refused{
		{"no program", api.Proc{}, false},
		{"an empty program", api.Proc{Prog: []api.Instr{}}, false},
		{"an empty program, ended", api.Proc{Done: true}, false},
		{"one instruction", api.Proc{Prog: ends(1)}, true},
		{"63 instructions", api.Proc{Prog: ends(63)}, true},
		{"64 instructions", api.Proc{Prog: ends(64)}, true},
		{"64 of 65 instructions", api.Proc{Prog: ends(65)[:64]}, true},
		{"65 instructions", api.Proc{Prog: ends(65)}, false},
		{"4000 instructions", api.Proc{Prog: ends(4000)}, false},
		{"at the last instruction", api.Proc{Prog: ends(3), At: 2}, true},
		{"at the last of 64", api.Proc{Prog: ends(64), At: 63}, true},
		{"behind the last instruction", api.Proc{Prog: ends(3), At: 3}, false},
		{"behind the last instruction, within the capacity", api.Proc{Prog: ends(4)[:3], At: 3}, false},
		{"behind the last instruction, ended", api.Proc{Prog: ends(3), At: 3, Done: true}, false},
		{"behind the last of 64", api.Proc{Prog: ends(64), At: 64}, false},
		{"far behind the last instruction", api.Proc{Prog: ends(3), At: math.MaxInt}, false},
		{"ahead of the first instruction", api.Proc{Prog: ends(3), At: -1}, false},
		{"far ahead of the first instruction", api.Proc{Prog: ends(3), At: math.MinInt}, false},
		{"ended", api.Proc{Prog: ends(3), Done: true}, true},
		{"took 1", api.Proc{Prog: ends(1), Took: 1}, true},
		{"took 2^40 - 1", api.Proc{Prog: ends(1), Took: 1<<40 - 1}, true},
		{"took 2^40", api.Proc{Prog: ends(1), Took: 1 << 40}, true},
		{"took 2^40, ended", api.Proc{Prog: ends(1), Took: 1 << 40, Done: true}, true},
		{"took 2^40 + 1", api.Proc{Prog: ends(1), Took: 1<<40 + 1}, false},
		{"took 2^40 + 1, ended", api.Proc{Prog: ends(1), Took: 1<<40 + 1, Done: true}, false},
		{"took more than may be", api.Proc{Prog: ends(1), Took: math.MaxInt}, false},
		{"took below 0", api.Proc{Prog: ends(1), Took: -1}, false},
		{"took far below 0", api.Proc{Prog: ends(1), Took: math.MinInt}, false},
		{"registers of all bits", api.Proc{Prog: ends(1), Regs: [4]uint64{top, top, top, top}}, true},
	}
}

// rightKind, rightReg, rightAt and rightB tell of an instruction's numbers what the chapter does, in a program of n.
func rightKind(kind int) bool { return kind >= 1 && kind <= 8 }
func rightReg(reg int) bool   { return reg >= 0 && reg <= 3 }
func rightAt(at int) bool     { return at >= 0 && at <= 63 }
func rightB(kind, b, n int) bool {
	switch kind {
	case 6:
		return b >= 0 && b <= 3
	case 7:
		return b >= 0 && b < n
	}
	return true
}

// instrs are processes of which one instruction's numbers lie at the edges: it is the only one, the first, or the last.
func instrs() []refused {
	var out []refused
	add := func(in api.Instr) {
		for _, n := range []int{1, 3, 5, 64} {
			for _, at := range []int{0, n - 1} {
				p := api.Proc{Prog: ends(n)}
				p.Prog[at] = in
				may := rightKind(in.Kind) && rightReg(in.Reg) && rightAt(in.At) && rightB(in.Kind, in.B, n)
				out = append(out, refused{"an instruction", p, may})
			}
		}
	}
	for _, kind := range []int{0, 1, 2, 3, 4, 5, 6, 7, 8, 9, -1, 256 + 1, 1<<32 + 1, math.MinInt, math.MaxInt} {
		for _, n := range []int{-1, 0, 1, 2, 3, 4, 5, 62, 63, 64, 65, 256, 1 << 32, math.MinInt, math.MaxInt} {
			add(api.Instr{Kind: kind, Reg: n})
			add(api.Instr{Kind: kind, At: n})
			add(api.Instr{Kind: kind, B: n})
			add(api.Instr{Kind: kind, Reg: 3, At: 63, A: top, B: n})
		}
	}
	return out
}

func TestRight(t *testing.T) {
	for _, c := range append(places(), instrs()...) {
		if got := machine.Right([]api.Proc{c.p}); got != c.may {
			t.Errorf("%s: Right of %v: %v", c.name, c.p, got)
		}
		if got := machine.Right([]api.Proc{{Prog: ends(1)}, c.p, {Prog: ends(1)}}); got != c.may {
			t.Errorf("%s, as the second of three: Right of %v: %v", c.name, c.p, got)
		}
		if got := machine.Right(append(procs(7), c.p)); got != c.may {
			t.Errorf("%s, as the last of eight: Right of %v: %v", c.name, c.p, got)
		}
	}
}

func TestRightOfMany(t *testing.T) {
	for n, want := range map[int]bool{0: true, 1: true, 2: true, 7: true, 8: true, 9: false, 10: false, 64: false, 1000: false} {
		if got := machine.Right(procs(n)); got != want {
			t.Errorf("Right of %d processes: %v", n, got)
		}
	}
	if !machine.Right([]api.Proc{}) || !machine.Right(procs(9)[:8]) {
		t.Error("Right looks at more than the length")
	}
}

func TestStepOfProcessesAtTheEdges(t *testing.T) {
	for _, c := range append(places(), instrs()...) {
		m, p, err := machine.Step(words(64), c.p)
		if c.may && (err != api.OK || len(m) != 64 || len(p.Prog) != len(c.p.Prog)) {
			t.Errorf("%s: Step of %v: %v, %v, %d", c.name, c.p, m, p, err)
		}
		if !c.may && (err != api.ErrArg || len(m) != 0 || !same(p, api.Proc{})) {
			t.Errorf("%s: Step of %v: %v, %v, %d", c.name, c.p, m, p, err)
		}
	}
}

// TestRunOfProcessesAtTheEdges: they are looked at though none of them is picked.
func TestRunOfProcessesAtTheEdges(t *testing.T) {
	for _, c := range append(places(), instrs()...) {
		for _, picks := range [][]int{nil, {0, 0}, {1}} {
			l := []api.Proc{{Prog: ends(1)}, c.p}
			m, l, err := machine.Run(words(64), l, picks...)
			if c.may && (err != api.OK || len(m) != 64 || len(l) != 2) {
				t.Errorf("%s: Run of %v by %v: %v, %v, %d", c.name, c.p, picks, m, l, err)
			}
			if !c.may && (err != api.ErrArg || len(m) != 0 || len(l) != 0) {
				t.Errorf("%s: Run of %v by %v: %v, %v, %d", c.name, c.p, picks, m, l, err)
			}
		}
	}
}

func TestThereMustBe64Words(t *testing.T) {
	for _, n := range []int{0, 1, 2, 62, 63, 64, 65, 66, 128, 4000} {
		for _, prog := range [][]api.Instr{{{Kind: 1}}, {{Kind: 5}}, {{Kind: 8}}, {{Kind: 4, At: 63}}} {
			want := api.ErrArg
			if n == 64 {
				want = api.OK
			}
			m, p, err := machine.Step(words(n), api.Proc{Prog: prog})
			if err != want || want != api.OK && (len(m) != 0 || !same(p, api.Proc{})) {
				t.Errorf("Step of %d words: %v, %v, %d", n, m, p, err)
			}
			for _, picks := range [][]int{nil, {0}, {5}} {
				m, l, err := machine.Run(words(n), []api.Proc{{Prog: prog}}, picks...)
				if err != want || want != api.OK && (len(m) != 0 || len(l) != 0) {
					t.Errorf("Run of %d words by %v: %v, %v, %d", n, picks, m, l, err)
				}
			}
		}
	}
	if _, _, err := machine.Run(words(63), nil); err != api.ErrArg {
		t.Errorf("Run of 63 words and no process: %d", err)
	}
	if _, _, err := machine.Step(words(65)[:64], api.Proc{Prog: ends(1)}); err != api.OK {
		t.Errorf("Step of 64 words of 65: %d", err)
	}
	if _, _, err := machine.Step(words(64)[:63], api.Proc{Prog: ends(1)}); err != api.ErrArg {
		t.Errorf("Step of 63 words of 64: %d", err)
	}
}

func TestRunOfTooManyProcesses(t *testing.T) {
	for n, want := range map[int]api.Errno{0: api.OK, 1: api.OK, 8: api.OK, 9: api.ErrArg, 64: api.ErrArg} {
		m, l, err := machine.Run(words(64), procs(n), 0, 7)
		if err != want || want == api.OK && (len(m) != 64 || len(l) != n) || want != api.OK && (len(m) != 0 || len(l) != 0) {
			t.Errorf("Run of %d processes: %v, %v, %d", n, m, l, err)
		}
	}
	for _, none := range [][]api.Proc{nil, {}} {
		m, l, err := machine.Run(words(64), none, 0, 1, -1)
		if err != api.OK || !slices.Equal(m, words(64)) || len(l) != 0 {
			t.Errorf("Run of no process: %v, %v, %d", m, l, err)
		}
	}
}

// instrCase is an instruction, what is there ahead of it, and what is there behind it.
type instrCase struct {
	name string
	in   api.Instr
	m    []uint64
	regs [4]uint64
	at   int // where the process goes on; it has three instructions, of which this is the second
	done bool
}

// here is what there is in an instrCase ahead of the step: the words, of which 5 is 0, 6 is 2^64 - 1 and 7 is 2^63; and registers.
func here() ([]uint64, [4]uint64) {
	m := words(64)
	m[5], m[6], m[7] = 0, top, 1<<63
	return m, [4]uint64{0, 1, top, 7}
}

func instrCases() []instrCase {
	there, regs := here()
	m := func(at int, v uint64) []uint64 {
		c := slices.Clone(there)
		c[at] = v
		return c
	}
	r := func(reg int, v uint64) [4]uint64 {
		c := regs
		c[reg] = v
		return c
	}
	return []instrCase{
		{"load the first word", api.Instr{Kind: 1, Reg: 0, At: 0}, there, r(0, 100), 2, false},
		{"load the last word", api.Instr{Kind: 1, Reg: 3, At: 63, A: 9, B: -1}, there, r(3, 163), 2, false},
		{"load 0", api.Instr{Kind: 1, Reg: 1, At: 5}, there, r(1, 0), 2, false},
		{"load the greatest word", api.Instr{Kind: 1, Reg: 1, At: 6}, there, r(1, top), 2, false},

		{"store at the first word", api.Instr{Kind: 2, Reg: 3, At: 0}, m(0, 7), regs, 2, false},
		{"store at the last word", api.Instr{Kind: 2, Reg: 2, At: 63, A: 9, B: 99}, m(63, top), regs, 2, false},
		{"store 0", api.Instr{Kind: 2, Reg: 0, At: 9, A: 9, B: 2}, m(9, 0), regs, 2, false},

		{"swap, for it is there", api.Instr{Kind: 3, Reg: 3, At: 9, A: 109, B: 2}, m(9, 7), r(3, 1), 2, false},
		{"swap at the last word", api.Instr{Kind: 3, Reg: 2, At: 63, A: 163}, m(63, top), r(2, 1), 2, false},
		{"swap of 0 for 0", api.Instr{Kind: 3, Reg: 0, At: 5, A: 0}, there, r(0, 1), 2, false},
		{"swap of a word for itself", api.Instr{Kind: 3, Reg: 2, At: 6, A: top}, there, r(2, 1), 2, false},
		{"no swap: another one is there", api.Instr{Kind: 3, Reg: 3, At: 9, A: 108}, there, r(3, 0), 2, false},
		{"no swap: what it would put is there", api.Instr{Kind: 3, Reg: 2, At: 6, A: 5}, there, r(2, 0), 2, false},
		{"no swap: the register is what the word should be", api.Instr{Kind: 3, Reg: 3, At: 9, A: 7}, there, r(3, 0), 2, false},
		{"no swap: all bits are held against each other", api.Instr{Kind: 3, Reg: 3, At: 7, A: 0}, there, r(3, 0), 2, false},

		{"add to a word", api.Instr{Kind: 4, Reg: 1, At: 9, A: 3}, m(9, 112), r(1, 109), 2, false},
		{"add 0", api.Instr{Kind: 4, Reg: 1, At: 0, A: 0, B: 3}, there, r(1, 100), 2, false},
		{"add beyond 2^64 - 1", api.Instr{Kind: 4, Reg: 3, At: 6, A: 3}, m(6, 2), r(3, top), 2, false},
		{"add 2^63 twice", api.Instr{Kind: 4, Reg: 3, At: 7, A: 1 << 63}, m(7, 0), r(3, 1<<63), 2, false},
		{"add at the last word", api.Instr{Kind: 4, Reg: 0, At: 63, A: top}, m(63, 162), r(0, 163), 2, false},

		{"set the first register", api.Instr{Kind: 5, Reg: 0, At: 3, A: 9, B: 2}, there, r(0, 9), 2, false},
		{"set the last register to all bits", api.Instr{Kind: 5, Reg: 3, A: top, B: -1}, there, r(3, top), 2, false},
		{"set a register to 0", api.Instr{Kind: 5, Reg: 1}, there, r(1, 0), 2, false},

		{"add the last register to the first", api.Instr{Kind: 6, Reg: 0, B: 3, A: 9}, there, r(0, 7), 2, false},
		{"add the first register to the last", api.Instr{Kind: 6, Reg: 3, B: 0, At: 4}, there, r(3, 7), 2, false},
		{"add registers beyond 2^64 - 1", api.Instr{Kind: 6, Reg: 1, B: 2}, there, r(1, 0), 2, false},
		{"add a register to itself", api.Instr{Kind: 6, Reg: 3, B: 3}, there, r(3, 14), 2, false},
		{"add a register of all bits to itself", api.Instr{Kind: 6, Reg: 2, B: 2}, there, r(2, top-1), 2, false},

		{"go to the first", api.Instr{Kind: 7, Reg: 0, At: 9, A: 9, B: 0}, there, regs, 0, false},
		{"go to where it is", api.Instr{Kind: 7, Reg: 0, B: 1}, there, regs, 1, false},
		{"go to the last", api.Instr{Kind: 7, Reg: 0, B: 2}, there, regs, 2, false},
		{"go on, for the register is 1", api.Instr{Kind: 7, Reg: 1, B: 0}, there, regs, 2, false},
		{"go on, for the register is all bits", api.Instr{Kind: 7, Reg: 2, B: 1}, there, regs, 2, false},

		{"end", api.Instr{Kind: 8}, there, regs, 1, true},
		{"end, whatever its numbers are", api.Instr{Kind: 8, Reg: 3, At: 9, A: 9, B: 2}, there, regs, 1, true},
	}
}

func TestStep(t *testing.T) {
	for _, c := range instrCases() {
		m, regs := here()
		p := api.Proc{Prog: []api.Instr{{Kind: 8}, c.in, {Kind: 8}}, At: 1, Regs: regs, Took: 5}
		want := api.Proc{Prog: p.Prog, At: c.at, Regs: c.regs, Done: c.done, Took: 6}
		gotM, got, err := machine.Step(m, p)
		if err != api.OK || !slices.Equal(gotM, c.m) || !same(got, want) {
			t.Errorf("%s: Step: %v, %v, %d", c.name, gotM, got, err)
		}
		gotM, l, err := machine.Run(m, []api.Proc{{Prog: ends(1)}, p}, 1)
		if err != api.OK || !slices.Equal(gotM, c.m) || len(l) != 2 || !same(l[1], want) || !same(l[0], api.Proc{Prog: ends(1)}) {
			t.Errorf("%s: Run: %v, %v, %d", c.name, gotM, l, err)
		}
	}
}

// TestBehindTheLast: one that goes on behind its last instruction stays at it, and ends; one that goes elsewhere from there does not.
func TestBehindTheLast(t *testing.T) {
	for _, c := range instrCases() {
		for _, n := range []int{2, 64} {
			m, regs := here()
			p := api.Proc{Prog: append(ends(n-1), c.in), At: n - 1, Regs: regs}
			if c.in.Kind == 7 && c.in.B >= n {
				continue
			}
			at, done := n-1, true
			if c.in.Kind == 7 && regs[c.in.Reg] == 0 {
				at, done = c.in.B, false
			}
			gotM, got, err := machine.Step(m, p)
			if err != api.OK || !slices.Equal(gotM, c.m) || got.At != at || got.Done != done || got.Took != 1 || got.Regs != c.regs {
				t.Errorf("%s, as the last of %d: Step: %v, %v, %d", c.name, n, gotM, got, err)
			}
			if !machine.Right([]api.Proc{got}) {
				t.Errorf("%s, as the last of %d: what comes of it may not be: %v", c.name, n, got)
			}
		}
	}
}

// TestOneInstruction: the first instruction may be the last one.
func TestOneInstruction(t *testing.T) {
	_, p, err := machine.Step(words(64), api.Proc{Prog: []api.Instr{{Kind: 7, B: 0}}})
	if err != api.OK || p.At != 0 || p.Done || p.Took != 1 {
		t.Errorf("one that goes to itself: %v, %d", p, err)
	}
	_, p, err = machine.Step(words(64), api.Proc{Prog: []api.Instr{{Kind: 7, B: 0}}, Regs: [4]uint64{1}})
	if err != api.OK || p.At != 0 || !p.Done || p.Took != 1 {
		t.Errorf("one that goes on behind itself: %v, %d", p, err)
	}
	_, p, err = machine.Step(words(64), api.Proc{Prog: []api.Instr{{Kind: 5, A: 9}}})
	if err != api.OK || p.At != 0 || !p.Done || p.Took != 1 || p.Regs != [4]uint64{9} {
		t.Errorf("one that sets a register: %v, %d", p, err)
	}
}

// TestOneThatDoesNothing: one that ended, or took 2^40 steps, whatever its instruction is.
func TestOneThatDoesNothing(t *testing.T) {
	for _, c := range instrCases() {
		m, regs := here()
		for _, p := range []api.Proc{
			{Done: true},
			{Done: true, Took: 9},
			{Done: true, Took: 1<<40 - 1},
			{Done: true, Took: 1 << 40},
			{Took: 1 << 40},
		} {
			p.Prog, p.At, p.Regs = []api.Instr{{Kind: 8}, c.in, {Kind: 8}}, 1, regs
			gotM, got, err := machine.Step(m, p)
			if err != api.OK || !slices.Equal(gotM, m) || !same(got, p) {
				t.Errorf("%s: Step of %v: %v, %v, %d", c.name, p, gotM, got, err)
			}
			gotM, l, err := machine.Run(m, []api.Proc{p}, 0, 0, 0)
			if err != api.OK || !slices.Equal(gotM, m) || len(l) != 1 || !same(l[0], p) {
				t.Errorf("%s: Run of %v: %v, %v, %d", c.name, p, gotM, l, err)
			}
		}
	}
}

// TestTheLastStepOfAll: one that took 2^40 - 1 steps takes one more, and does not end by that.
func TestTheLastStepOfAll(t *testing.T) {
	p := api.Proc{Prog: []api.Instr{{Kind: 4, A: 1}, {Kind: 4, A: 1}, {Kind: 4, A: 1}}, Took: 1<<40 - 1}
	m, l, err := machine.Run(words(64), []api.Proc{p}, 0, 0, 0)
	want := p
	want.At, want.Took, want.Regs = 1, 1<<40, [4]uint64{100}
	if err != api.OK || !slices.Equal(m, with(0, 101)) || len(l) != 1 || !same(l[0], want) {
		t.Errorf("Run: %v, %v, %d", m, l, err)
	}
}

// TestTheExample is the chapter's: one is added, then it ends.
func TestTheExample(t *testing.T) {
	p := api.Proc{Prog: []api.Instr{{Kind: 4, At: 0, A: 1}, {Kind: 8}}}
	m, l, err := machine.Run(words(64), []api.Proc{p}, 0, 0, 0)
	want := api.Proc{Prog: p.Prog, At: 1, Regs: [4]uint64{100}, Done: true, Took: 2}
	if err != api.OK || !slices.Equal(m, with(0, 101)) || len(l) != 1 || !same(l[0], want) {
		t.Errorf("Run: %v, %v, %d", m, l, err)
	}
}

func TestRunOfNoPick(t *testing.T) {
	m, l, err := machine.Run(words(64), procs(3))
	if err != api.OK || !slices.Equal(m, words(64)) || !slices.EqualFunc(l, procs(3), same) {
		t.Errorf("Run: %v, %v, %d", m, l, err)
	}
}

// TestPicksOfNoProcess: they are passed over, and those behind them are not.
func TestPicksOfNoProcess(t *testing.T) {
	count := api.Proc{Prog: []api.Instr{{Kind: 4, A: 1}, {Kind: 7, Reg: 3, B: 0}}}
	for _, none := range []int{-1, -2, 2, 3, 7, 8, 9, 256, 1 << 32, -1 << 32, math.MinInt, math.MaxInt} {
		m, l, err := machine.Run(words(64), []api.Proc{count, count}, none, 0, none, none, 1, 0, none)
		if err != api.OK || !slices.Equal(m, with(0, 102)) || len(l) != 2 || l[0].Took != 2 || l[1].Took != 1 || l[0].At != 0 || l[1].At != 1 {
			t.Errorf("Run with picks of %d: %v, %v, %d", none, m, l, err)
		}
	}
}

func TestRunOfManyPicks(t *testing.T) {
	loop := api.Proc{Prog: []api.Instr{{Kind: 4, A: 1}, {Kind: 7, Reg: 3, B: 0}}}
	for _, who := range []int{0, -1, 5} {
		for _, n := range []int{1, 2, 3999, 4000, 4001, 8000} {
			m, l, err := machine.Run(words(64), []api.Proc{loop}, slices.Repeat([]int{who}, n)...)
			if n > 4000 {
				if err != api.ErrArg || len(m) != 0 || len(l) != 0 {
					t.Errorf("Run by %d picks of %d: %v, %v, %d", n, who, m, l, err)
				}
				continue
			}
			took := n
			if who != 0 {
				took = 0
			}
			if err != api.OK || len(m) != 64 || m[0] != uint64(100+(took+1)/2) || len(l) != 1 || l[0].Took != took || l[0].Done {
				t.Errorf("Run by %d picks of %d: %v, %v, %d", n, who, m, l, err)
			}
		}
	}
}

// TestPicksAreInOrder: what is told of two that swap one word hangs on who is picked first.
func TestPicksAreInOrder(t *testing.T) {
	swap := func(v uint64) api.Proc {
		return api.Proc{Prog: []api.Instr{{Kind: 5, A: v}, {Kind: 3, At: 9, A: 109}}}
	}
	for first := range 2 {
		m, l, err := machine.Run(words(64), []api.Proc{swap(70), swap(71)}, 0, 1, first, 1-first)
		if err != api.OK || !slices.Equal(m, with(9, uint64(70+first))) || len(l) != 2 || l[first].Regs[0] != 1 || l[1-first].Regs[0] != 0 {
			t.Errorf("%d swaps first: %v, %v, %d", first, m, l, err)
		}
	}
}

// TestTheSharedExample: two at once, of which one waits for a word that the other one adds to.
func TestTheSharedExample(t *testing.T) {
	add := api.Proc{Prog: []api.Instr{{Kind: 4, At: 0, A: 2}, {Kind: 8}}}
	wait := api.Proc{Prog: []api.Instr{{Kind: 1, Reg: 1, At: 0}, {Kind: 7, Reg: 1, B: 0}, {Kind: 5, Reg: 2, A: 9}, {Kind: 3, Reg: 2, At: 0, A: 2}}}
	m, l, err := machine.Run(make([]uint64, 64), []api.Proc{add, wait}, 1, 1, 1, 1, 0, 1, 1, 1, 1, 1, 0, 0)
	if err != api.OK || m[0] != 9 || len(l) != 2 {
		t.Fatalf("Run: %v, %v, %d", m, l, err)
	}
	if want := (api.Proc{Prog: add.Prog, At: 1, Done: true, Took: 2}); !same(l[0], want) {
		t.Errorf("the one that adds: %v", l[0])
	}
	if want := (api.Proc{Prog: wait.Prog, At: 3, Regs: [4]uint64{0, 2, 1}, Done: true, Took: 8}); !same(l[1], want) {
		t.Errorf("the one that waits: %v", l[1])
	}
}
