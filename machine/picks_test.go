package machine_test

import (
	"slices"
	"testing"

	"burgeon/api"
	"burgeon/dice"
	"burgeon/machine"
)

// drawn are processes and picks that dice tell.
type drawn struct{ *dice.Dice }

// instr draws an instruction, on one of some words from a first one on, in a program of n.
func (d *drawn) instr(first, some, n int) api.Instr {
	in := api.Instr{Kind: 1 + d.UpTo(8), Reg: d.UpTo(4), At: first + d.UpTo(some), A: uint64(d.UpTo(3))}
	if in.Kind == 8 && d.UpTo(4) > 0 { // ends are few, so that there is something ahead of them
		in.Kind = 4
	}
	switch in.Kind {
	case 6:
		in.B = d.UpTo(4)
	case 7:
		in.B = d.UpTo(n)
	}
	return in
}

// proc draws a process that is on those words alone.
func (d *drawn) proc(first, some int) api.Proc {
	n := 1 + d.UpTo(12)
	p := api.Proc{At: d.UpTo(n), Took: d.UpTo(3)}
	for range n {
		p.Prog = append(p.Prog, d.instr(first, some, n))
	}
	for i := range p.Regs {
		p.Regs[i] = uint64(d.UpTo(3))
	}
	if d.UpTo(10) == 0 {
		p.Took = 1<<40 - d.UpTo(4)
	}
	p.Done = d.UpTo(20) == 0
	return p
}

// picks draws n picks, of which some are of no process.
func (d *drawn) picks(n, of int) []int {
	var out []int
	for range n {
		out = append(out, d.UpTo(of+2)-1)
	}
	return out
}

// plain does a step as the chapter tells it, in place: the words, and the process, are its own.
func plain(m []uint64, p *api.Proc) {
	if p.Done || p.Took == 1<<40 {
		return
	}
	in := p.Prog[p.At]
	reg, at := &p.Regs[in.Reg], &m[in.At]
	next := p.At + 1
	switch in.Kind {
	case 1:
		*reg = *at
	case 2:
		*at = *reg
	case 3:
		if *at == in.A {
			*at, *reg = *reg, 1
		} else {
			*reg = 0
		}
	case 4:
		*at, *reg = *at+in.A, *at
	case 5:
		*reg = in.A
	case 6:
		*reg += p.Regs[in.B]
	case 7:
		if *reg == 0 {
			next = in.B
		}
	case 8:
		next = len(p.Prog)
	}
	p.Took++
	if next == len(p.Prog) {
		p.Done = true
	} else {
		p.At = next
	}
}

// TestRunIsStepByStep: all of it, against the chapter's words and against Step.
func TestRunIsStepByStep(t *testing.T) {
	d := &drawn{dice.From(1)}
	for round := range 300 {
		var l []api.Proc
		for range 1 + d.UpTo(8) {
			l = append(l, d.proc(0, 3))
		}
		m := make([]uint64, 64)
		picks := d.picks(200, len(l))
		wantM, want := slices.Clone(m), slices.Clone(l)
		stepM, steps := m, slices.Clone(l)
		for _, who := range picks {
			if who >= 0 && who < len(l) {
				plain(wantM, &want[who])
				var err api.Errno
				if stepM, steps[who], err = machine.Step(stepM, steps[who]); err != api.OK {
					t.Fatalf("round %d: Step: %d", round, err)
				}
			}
		}
		gotM, got, err := machine.Run(m, l, picks...)
		if err != api.OK || !slices.Equal(gotM, wantM) || !slices.EqualFunc(got, want, same) {
			t.Fatalf("round %d: Run of %v by %v: %v, %v, %d; the chapter's: %v, %v", round, l, picks, gotM, got, err, wantM, want)
		}
		if !slices.Equal(stepM, wantM) || !slices.EqualFunc(steps, want, same) {
			t.Fatalf("round %d: Steps of %v by %v: %v, %v; the chapter's: %v, %v", round, l, picks, stepM, steps, wantM, want)
		}
		if !machine.Right(got) {
			t.Fatalf("round %d: what comes of it may not be: %v", round, got)
		}
	}
}

// TestARunInTwoParts: it comes to the same as in one.
func TestARunInTwoParts(t *testing.T) {
	d := &drawn{dice.From(2)}
	for range 50 {
		l := []api.Proc{d.proc(0, 2), d.proc(0, 2), d.proc(0, 2)}
		picks := d.picks(30, 3)
		wantM, want, _ := machine.Run(words(64), l, picks...)
		for cut := range picks {
			m, l, _ := machine.Run(words(64), l, picks[:cut]...)
			m, l, err := machine.Run(m, l, picks[cut:]...)
			if err != api.OK || !slices.Equal(m, wantM) || !slices.EqualFunc(l, want, same) {
				t.Fatalf("cut at %d of %v: %v, %v, %d; in one: %v, %v", cut, picks, m, l, err, wantM, want)
			}
		}
	}
}

// count tells how often a process is picked.
func count(picks []int, who int) int {
	n := 0
	for _, p := range picks {
		if p == who {
			n++
		}
	}
	return n
}

// TestStepsAreThePicks: a process takes as many steps as it is picked for, till it ends, or took 2^40.
func TestStepsAreThePicks(t *testing.T) {
	d := &drawn{dice.From(3)}
	for range 300 {
		l := []api.Proc{d.proc(0, 3), d.proc(0, 3), d.proc(0, 3), d.proc(0, 3)}
		picks := d.picks(1+d.UpTo(60), len(l))
		_, got, err := machine.Run(words(64), l, picks...)
		if err != api.OK {
			t.Fatalf("Run: %d", err)
		}
		for i, p := range l {
			took, most := got[i].Took-p.Took, count(picks, i)
			switch {
			case p.Done && took != 0:
				t.Fatalf("one that had ended took %d steps", took)
			case got[i].Done || got[i].Took == 1<<40:
				if took > most {
					t.Fatalf("picked %d times, took %d steps: %v", most, took, got[i])
				}
			case took != most:
				t.Fatalf("picked %d times, took %d steps, not ended: %v", most, took, got[i])
			}
		}
	}
}

// TestAProcessOfAFewSteps: one of n instructions in a row takes just n.
func TestAProcessOfAFewSteps(t *testing.T) {
	for _, n := range []int{1, 2, 3, 63, 64} {
		for picked := range n + 3 {
			_, l, err := machine.Run(words(64), []api.Proc{{Prog: sets(n)}}, make([]int, picked)...)
			took := min(n, picked)
			if err != api.OK || l[0].Took != took || l[0].Done != (picked >= n) || l[0].At != min(took, n-1) || l[0].Regs[0] != uint64(took) {
				t.Fatalf("%d instructions, picked %d times: %v, %d", n, picked, l, err)
			}
		}
	}
}

// TestOwnWords: each of eight processes is on words of its own: it comes to the same as alone, however the picks lie.
func TestOwnWords(t *testing.T) {
	d := &drawn{dice.From(4)}
	for range 100 {
		var l []api.Proc
		for i := range 8 {
			l = append(l, d.proc(8*i, 8))
		}
		picks := d.picks(150, len(l))
		for range 3 {
			for i := range picks { // the same picks in another order
				j := d.UpTo(len(picks))
				picks[i], picks[j] = picks[j], picks[i]
			}
			gotM, got, err := machine.Run(words(64), l, picks...)
			if err != api.OK {
				t.Fatalf("Run: %d", err)
			}
			for i := range l {
				m, alone, err := machine.Run(words(64), l[i:i+1], make([]int, count(picks, i))...)
				if err != api.OK || !same(got[i], alone[0]) || !slices.Equal(gotM[8*i:8*i+8], m[8*i:8*i+8]) {
					t.Fatalf("process %d by %v: %v, %v; alone: %v, %v", i, picks, got[i], gotM, alone, m)
				}
			}
		}
	}
}

// TestWordsAloneTellOfOthers: a process comes to the same beside others of whatever kind, that it is not on one word with.
func TestWordsAloneTellOfOthers(t *testing.T) {
	d := &drawn{dice.From(5)}
	for range 100 {
		p := d.proc(0, 32)
		picks := slices.Repeat([]int{0, 1, 2}, 20)
		_, one, _ := machine.Run(words(64), []api.Proc{p, d.proc(32, 32), d.proc(32, 32)}, picks...)
		_, two, _ := machine.Run(words(64), []api.Proc{p, d.proc(32, 32), d.proc(32, 32)}, picks...)
		if !same(one[0], two[0]) {
			t.Fatalf("%v comes to %v and to %v", p, one[0], two[0])
		}
	}
}

// TestNoCallChangesItsLists: neither the words, nor the processes, nor their programs, nor the picks; not behind their lengths either.
func TestNoCallChangesItsLists(t *testing.T) {
	d := &drawn{dice.From(6)}
	for range 100 {
		m, l, picks := words(70), []api.Proc{d.proc(0, 4), d.proc(0, 4), d.proc(0, 4), d.proc(0, 4)}, d.picks(60, 3)
		for i := range l {
			l[i].Prog = append(l[i].Prog, api.Instr{Kind: 4, At: 9, A: 9})
		}
		wantM, wantL, wantPicks := slices.Clone(m), deep(l), slices.Clone(picks)
		given := slices.Clone(l)
		for i := range given {
			given[i].Prog = l[i].Prog[:len(l[i].Prog)-1]
		}
		check := func(call string) {
			t.Helper()
			if !slices.Equal(m, wantM) || !slices.EqualFunc(l, wantL, same) || !slices.Equal(picks, wantPicks) {
				t.Fatalf("%s changed what it was handed: %v, %v, %v", call, m, l, picks)
			}
			for i, p := range given {
				want := wantL[i]
				want.Prog = want.Prog[:len(want.Prog)-1]
				if !same(p, want) {
					t.Fatalf("%s changed process %d: %v, was %v", call, i, p, want)
				}
			}
		}
		machine.Right(given[:3])
		check("Right")
		for _, p := range given {
			machine.Step(m[:64], p)
			check("Step")
		}
		machine.Run(m[:64], given[:3], picks[:50]...)
		check("Run")
		machine.Run(m[:63], given[:3], picks[:50]...)
		check("Run of 63 words")
	}
}

// deep is processes that share nothing with those.
func deep(l []api.Proc) []api.Proc {
	l = slices.Clone(l)
	for i := range l {
		l[i].Prog = slices.Clone(l[i].Prog)
	}
	return l
}

// spoil writes over all lists of an answer.
func spoil(m []uint64, l []api.Proc) {
	clear(m)
	for i := range l {
		clear(l[i].Prog)
	}
	clear(l)
}

// TestAnswersAreNewLists: who writes over an answer changes neither what was handed in, nor another answer, nor another process of this one.
func TestAnswersAreNewLists(t *testing.T) {
	for _, picks := range [][]int{nil, {0}, {0, 1}, {7}} {
		prog := []api.Instr{{Kind: 4, A: 1}, {Kind: 5, A: 1}, {Kind: 1}}
		m, l := words(64), []api.Proc{{Prog: prog}, {Prog: prog}}
		wantL := deep(l)
		firstM, first, _ := machine.Run(m, l, picks...)
		secondM, second, _ := machine.Run(m, l, picks...)
		wantSecondM, wantSecond := slices.Clone(secondM), deep(second)
		clear(first[0].Prog)
		if !slices.Equal(first[1].Prog, wantL[1].Prog) {
			t.Errorf("by %v: two processes of one answer share a program", picks)
		}
		spoil(firstM, first)
		if !slices.Equal(m, words(64)) || !slices.EqualFunc(l, wantL, same) || !slices.Equal(secondM, wantSecondM) || !slices.EqualFunc(second, wantSecond, same) {
			t.Errorf("by %v: an answer shares its lists", picks)
		}
	}
	for _, p := range []api.Proc{{Prog: sets(2)}, {Prog: sets(2), Done: true}, {Prog: []api.Instr{{Kind: 4, A: 1}}}} {
		m := words(64)
		want := deep([]api.Proc{p})[0]
		gotM, got, _ := machine.Step(m, p)
		spoil(gotM, []api.Proc{got})
		if !slices.Equal(m, words(64)) || !same(p, want) {
			t.Errorf("Step of %v: its answer shares its lists", want)
		}
	}
}

func TestNothingIsKept(t *testing.T) {
	for range 3 {
		p := api.Proc{Prog: []api.Instr{{Kind: 4, A: 1}, {Kind: 8}}}
		m, got, err := machine.Step(words(64), p)
		if err != api.OK || !slices.Equal(m, with(0, 101)) || got.At != 1 || got.Took != 1 || got.Done {
			t.Errorf("Step, again: %v, %v, %d", m, got, err)
		}
		m, l, err := machine.Run(words(64), []api.Proc{p, p}, 1, 1)
		if err != api.OK || !slices.Equal(m, with(0, 101)) || l[0].Took != 0 || l[1].Took != 2 || !l[1].Done {
			t.Errorf("Run, again: %v, %v, %d", m, l, err)
		}
	}
}
