package garden

import (
	"math/bits"
	"slices"

	"burgeon/api"
	"burgeon/mix"
)

// Levels is how many levels there are at which a key has a digit of its own.
const Levels = api.HashBits / api.HashStep

// Digit is a key's digit at a level; behind the last one it is 0.
func Digit(key int64, level int) int { return hashOf(key) >> (api.HashStep * level) & 3 }

// hashOf is a key's hash.
func hashOf(key int64) int { return mix.Hash(key) }

// OneHash are twelve keys of one hash, rising.
func OneHash() []int64 {
	return []int64{-1073635883, -1072495410, -7648057, -3239174, -1174983, 5, 52549, 707664, 1708039, 4517146, 1071848933, 1072732494}
}

// TopHash are twelve keys of another one, rising up to the greatest key.
func TopHash() []int64 {
	return []int64{-1073527563, -1070253904, -1068088986, -1067456732, 1066042217, 1067585992, 1067717162, 1068861864, 1070726652, 1072319088, 1072385057, Most}
}

// Sharing is the first key above one of which as many digits are that one's, from the lowest on, and not one more; at most 9.
func Sharing(key int64, digits int) int64 {
	hash := hashOf(key)
	for other := key + 1; ; other++ {
		if unlike := hash ^ hashOf(other); unlike != 0 && bits.TrailingZeros(uint(unlike))/api.HashStep == digits {
			return other
		}
	}
}

// Keyed is the key of a hash whose other bits of its Rank are a number; most such keys are not put.
func Keyed(hash, others int) int64 {
	return int64(unmixed(uint64(others)<<api.HashBits+uint64(hash)) - 7)
}

// unmixed is the number that was mixed.
func unmixed(n uint64) uint64 {
	n = unfolded(n, 31)
	n = unfolded(n*inverse(10723151780598845931), 27)
	return unfolded(n*inverse(13787848793156543929), 30)
}

// unfolded is the number that was xored with itself moved right.
func unfolded(n uint64, by int) uint64 {
	was := n
	for range 64 / by {
		was = n ^ was>>by
	}
	return was
}

// inverse is the number that an odd one is multiplied by to be 1; each round tells twice as many of its bits.
func inverse(odd uint64) uint64 {
	n := odd
	for range 5 {
		n *= 2 - odd*n
	}
	return n
}

// Crowd are 200 keys of 23 hashes, of each but the last one as many as there may be.
func Crowd() []api.Item {
	var keys []int64
	for i := range 200 {
		keys = append(keys, Keyed(i/api.Kids*45000+17, i))
	}
	return Items(keys...)
}

// TableContents are what tables hold: what maps do, and keys of like digits.
func TableContents() [][]api.Item {
	l := append(Contents(), Crowd(), Items(slices.Concat(OneHash()[:9], TopHash()[3:])...))
	for digits := range Levels {
		other := Sharing(5, digits)
		l = append(l, Items(5, other), Items(-3, 5, other, Sharing(other, digits)))
	}
	for n := 2; n <= api.Kids; n++ {
		l = append(l, Items(OneHash()[:n]...), Items(slices.Concat([]int64{1, 2, 3, 4}, TopHash()[12-n:])...))
	}
	return l
}

// CrossKeys are all keys of like digits that are put in tests.
func CrossKeys() []int64 {
	keys := slices.Concat(OneHash(), TopHash())
	for digits := range Levels {
		keys = append(keys, Sharing(5, digits), Sharing(6, digits))
	}
	return keys
}
