package garden

import (
	"cmp"
	"math"
	"slices"

	"burgeon/api"
	"burgeon/dice"
	"burgeon/mix"
)

// Keys at the edges: the greatest one that may be put, and the greatest and the least number.
const (
	Most = api.MaxKey
	Top  = math.MaxInt64
	Low  = math.MinInt64
)

// Items are keys, sorted, with values of their own, none of which is 0.
func Items(keys ...int64) []api.Item {
	var l []api.Item
	for _, key := range keys {
		l = append(l, api.Item{K: key, V: 1000 + key%1000})
	}
	slices.SortFunc(l, func(a, b api.Item) int { return cmp.Compare(a.K, b.K) })
	return l
}

// From are the keys from one to another one, each so far from the last one, with values.
func From(low, high, by int64) []api.Item {
	var keys []int64
	for key := low; key <= high; key += by {
		keys = append(keys, key)
	}
	return Items(keys...)
}

// Row are n keys, each Before all that come behind it, so that their map is one way down; each lies in a stretch of its own, which is told by what it comes behind.
func Row(n int, stretch func(i int) int) []api.Item {
	var keys []int64
	for i := range n {
		key := int64(stretch(i)) * 10000
		for mix.Rank(key)>>56 != uint64(i) {
			key++
		}
		keys = append(keys, key)
	}
	return Items(keys...)
}

// Rising is a row of each key above the last one.
func Rising(i int) int { return i }

// Falling is a row of each key below the last one.
func Falling(i int) int { return 200 - i }

// Inward is a row of keys now from the one end, now from the other one.
func Inward(i int) int {
	if i%2 == 0 {
		return i
	}
	return 400 - i
}

// Contents are what maps hold: from nothing to 200 keys, at the edges and beyond what is put.
func Contents() [][]api.Item {
	l := [][]api.Item{
		nil,
		Items(0), Items(5), Items(-Most), Items(Most), Items(Low), Items(Top),
		Items(1, 5, 9), Items(-7, 3, 0, 4, 5, -6, 2), Items(-Most, 0, Most),
		Items(Low, Top), Items(Low, Low+1, -1, 0, 1, Top-1, Top), Items(Low, 5, Top),
		From(1, 2, 1), From(1, 10, 1), From(1, 199, 1), From(-100, 99, 1), From(-600, 597, 6),
		Row(200, Rising), Row(200, Falling), Row(200, Inward),
	}
	d := dice.From(71)
	for range 4 {
		l = append(l, drawn(d, 1+d.UpTo(200)))
	}
	return l
}

// drawn are at most n keys that look as if they were drawn.
func drawn(d *dice.Dice, n int) []api.Item {
	var keys []int64
	for range n {
		keys = append(keys, int64(d.UpTo(Most))-Most/2)
	}
	slices.Sort(keys)
	return Items(slices.Compact(keys)...)
}

// EdgeKeys are keys that all maps are asked for.
func EdgeKeys() []int64 {
	return []int64{Low, Low + 1, -Most - 1, -Most, -1, 0, 1, 6, Most, Most + 1, 1 << 32, Top - 1, Top}
}

// KeysOf are the keys of items, the ones beside each, the ones between two, and those at the edges.
func KeysOf(l []api.Item) []int64 {
	keys := EdgeKeys()
	for i, item := range l {
		keys = append(keys, item.K)
		if item.K > Low {
			keys = append(keys, item.K-1)
		}
		if item.K < Top {
			keys = append(keys, item.K+1)
		}
		if i > 0 {
			keys = append(keys, l[i-1].K/2+item.K/2)
		}
	}
	slices.Sort(keys)
	return slices.Compact(keys)
}

// Some are things of a row, at most about n of them, with the first and the last one.
func Some[T any](l []T, n int) []T {
	var out []T
	for i := 0; i < len(l)-1; i += 1 + len(l)/n {
		out = append(out, l[i])
	}
	return append(out, l[len(l)-1])
}

// With are items with one more, or with another value of a key.
func With(l []api.Item, key, v int64) []api.Item {
	l = append(Without(l, key), api.Item{K: key, V: v})
	slices.SortFunc(l, func(a, b api.Item) int { return cmp.Compare(a.K, b.K) })
	return l
}

// Without are items without a key.
func Without(l []api.Item, key int64) []api.Item {
	return slices.DeleteFunc(slices.Clone(l), func(i api.Item) bool { return i.K == key })
}

// Has tells whether a key is one of items.
func Has(l []api.Item, key int64) bool {
	return slices.ContainsFunc(l, func(i api.Item) bool { return i.K == key })
}

// Shuffled are numbers in an order that is drawn.
func Shuffled(d *dice.Dice, keys []int64) []int64 {
	keys = slices.Clone(keys)
	for i := range keys {
		j := d.UpTo(i + 1)
		keys[i], keys[j] = keys[j], keys[i]
	}
	return keys
}

// Orders hands on all orders of keys.
func Orders(keys []int64, hand func([]int64)) {
	keys = slices.Clone(keys)
	var place func(done int)
	place = func(done int) {
		if done == len(keys) {
			hand(keys)
			return
		}
		for i := done; i < len(keys); i++ {
			keys[done], keys[i] = keys[i], keys[done]
			place(done + 1)
			keys[done], keys[i] = keys[i], keys[done]
		}
	}
	place(0)
}
