package order_test

import (
	"testing"

	"burgeon/api"
	"burgeon/garden"
	"burgeon/order"
)

// The key of each place has that place, and no other key has it but those between.
func TestKeysOfPlaces(t *testing.T) {
	for _, l := range garden.Contents() {
		a, r := garden.Of(l, 7)
		size, err := order.Size(a, r)
		if err != api.OK {
			t.Fatalf("Size: %d", err)
		}
		var last api.Item
		for place := range size {
			item, err := order.At(a, r, place)
			if err != api.OK || place > 0 && item.K <= last.K {
				t.Fatalf("At %d: %v, behind %v, %d", place, item, last, err)
			}
			if got, err := order.Rank(a, r, item.K); got != place || err != api.OK {
				t.Fatalf("the key %d of the place %d has the place %d, %d", item.K, place, got, err)
			}
			last = item
		}
	}
}

// Floor and Ceil of a key that is there are both it.
func TestFloorAndCeilOfKeysThatAreThere(t *testing.T) {
	for _, l := range garden.Contents() {
		a, r := garden.Of(l, 7)
		for _, item := range l {
			low, lowErr := order.Floor(a, r, item.K)
			high, highErr := order.Ceil(a, r, item.K)
			if low != item || high != item || lowErr != api.OK || highErr != api.OK {
				t.Fatalf("of %v: %v and %v, %d and %d", item, low, high, lowErr, highErr)
			}
		}
	}
}

// sideBySide sees that Floor of a key that is not there stands at the place ahead of Ceil's, which is that key's; ahead of the first place there is no Floor, and at the one behind the last one no Ceil.
func sideBySide(t *testing.T, a api.Arena, r api.Ref, key int64, size int) {
	t.Helper()
	place, err := order.Rank(a, r, key)
	if err != api.OK || place < 0 || place > size {
		t.Fatalf("Rank %d: %d, %d", key, place, err)
	}
	low, lowErr := order.Floor(a, r, key)
	if got, err := order.At(a, r, place-1); low != got || lowErr != err || (lowErr == api.ErrNone) != (place == 0) {
		t.Fatalf("Floor %d: %v, %d; at the place ahead of it there is %v, %d", key, low, lowErr, got, err)
	}
	high, highErr := order.Ceil(a, r, key)
	if got, err := order.At(a, r, place); high != got || highErr != err || (highErr == api.ErrNone) != (place == size) {
		t.Fatalf("Ceil %d: %v, %d; at its place there is %v, %d", key, high, highErr, got, err)
	}
	if lowErr != api.OK || highErr != api.OK {
		return
	}
	lowAt, lowErr := order.Rank(a, r, low.K)
	highAt, highErr := order.Rank(a, r, high.K)
	if lowErr != api.OK || highErr != api.OK || lowAt+1 != highAt || low.K >= key || high.K <= key {
		t.Fatalf("of %d: %v at %d and %v at %d", key, low, lowAt, high, highAt)
	}
}

func TestFloorAndCeilOfKeysThatAreNot(t *testing.T) {
	for _, l := range garden.Contents() {
		a, r := garden.Of(l, 7)
		for _, key := range garden.Some(garden.KeysOf(l), 150) {
			if placeOf(l, key) == len(l) || l[placeOf(l, key)].K != key {
				sideBySide(t, a, r, key, len(l))
			}
		}
	}
}
