// Package word is layer 1: shared words, and what a step on one of them does. See shared/doc/01-word.md.
package word

import (
	"slices"

	"burgeon/api"
)

// Right tells whether words may be.
func Right(m []uint64) bool { return len(m) <= api.MaxWords }

// Load reads the word of a place.
func Load(m []uint64, at int) (uint64, api.Errno) {
	if !has(m, at) {
		return 0, api.ErrArg
	}
	return m[at], api.OK
}

// Store answers the words with v at a place.
func Store(m []uint64, at int, v uint64) ([]uint64, api.Errno) {
	next, _, err := Do(m, api.Step{Kind: api.SStore, At: at, A: v})
	return next, err
}

// Cas answers the words with v in the place of old, and whether old was there.
func Cas(m []uint64, at int, old, v uint64) ([]uint64, bool, api.Errno) {
	next, done, err := Do(m, api.Step{Kind: api.SCas, At: at, A: old, B: v})
	return next, done == 1, err
}

// Add answers the words with v added to one, and what was there before.
func Add(m []uint64, at int, v uint64) ([]uint64, uint64, api.Errno) {
	return Do(m, api.Step{Kind: api.SAdd, At: at, A: v})
}

// Do answers the words behind a step, and what the step answers.
func Do(m []uint64, s api.Step) ([]uint64, uint64, api.Errno) {
	change := changeOf(s)
	if change == nil || !has(m, s.At) {
		return nil, 0, api.ErrArg
	}
	next := slices.Clone(m)
	now, answer := change(m[s.At])
	next[s.At] = now
	return next, answer, api.OK
}

// changeOf is what a step does to its word: from what is there, what is there then, and what the step answers; nil, if the kind is none.
// It is handed the one word alone, so that no step can touch another one.
func changeOf(s api.Step) func(old uint64) (now, answer uint64) {
	switch s.Kind {
	case api.SLoad:
		return func(old uint64) (uint64, uint64) { return old, old }
	case api.SStore:
		return func(uint64) (uint64, uint64) { return s.A, 0 }
	case api.SCas:
		return func(old uint64) (uint64, uint64) {
			if old != s.A {
				return old, 0
			}
			return s.B, 1
		}
	case api.SAdd:
		return func(old uint64) (uint64, uint64) { return old + s.A, old }
	}
	return nil
}

// has tells whether words may be, and have one of that place.
func has(m []uint64, at int) bool { return Right(m) && at >= 0 && at < len(m) }
