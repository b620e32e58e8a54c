// Package dice has numbers for the tests of the other packages: they look as if they were drawn, and are the same ones each time.
package dice

// Dice are numbers that come of the last one.
type Dice struct{ last uint64 }

// From are the numbers that come of a first one.
func From(first uint64) *Dice { return &Dice{first} }

// UpTo is the next number, from 0 to n - 1.
func (d *Dice) UpTo(n int) int {
	d.last = d.last*6364136223846793005 + 1442695040888963407
	return int(d.last >> 33 % uint64(n))
}
