package dice_test

import (
	"testing"

	"burgeon/dice"
)

func TestUpTo(t *testing.T) {
	for n := 1; n <= 12; n++ {
		d, again := dice.From(uint64(n)), dice.From(uint64(n))
		met := make([]int, n)
		for range 1000 {
			v := d.UpTo(n)
			if v != again.UpTo(n) {
				t.Fatalf("UpTo %d is another number the second time", n)
			}
			met[v]++
		}
		for v, times := range met {
			if times < 500/n {
				t.Errorf("UpTo %d is %d %d times of 1000", n, v, times)
			}
		}
	}
}
