package order_test

import "burgeon/api"

// placeOf is how many items' keys are below one.
func placeOf(l []api.Item, key int64) int {
	n := 0
	for _, item := range l {
		if item.K < key {
			n++
		}
	}
	return n
}

// floorOf is the last item whose key is not above one.
func floorOf(l []api.Item, key int64) (api.Item, api.Errno) {
	found, err := api.Item{}, api.ErrNone
	for _, item := range l {
		if item.K <= key {
			found, err = item, api.OK
		}
	}
	return found, err
}

// ceilOf is the first item whose key is not below one.
func ceilOf(l []api.Item, key int64) (api.Item, api.Errno) {
	for _, item := range l {
		if item.K >= key {
			return item, api.OK
		}
	}
	return api.Item{}, api.ErrNone
}

// itemAt is the item of a place.
func itemAt(l []api.Item, place int) (api.Item, api.Errno) {
	if place < 0 || place >= len(l) {
		return api.Item{}, api.ErrNone
	}
	return l[place], api.OK
}
