package mix_test

import (
	"math"
	"math/big"
	"testing"

	"burgeon/api"
	"burgeon/dice"
	"burgeon/mix"
)

const top = math.MaxUint64

// singleBits are the numbers of one bit, mixed: that of bit 0 first.
var singleBits = [64]uint64{
	6238072747940578789, 15839785061582574730, 13232826040865663252, 15378420243238726120,
	15673735954724858045, 12536647777456729413, 9990191023282495955, 12620869835119970534,
	17882227441062385421, 9594118518146132922, 8101005175654470197, 16202010351308940394,
	17320916186439268224, 1111983794319025228, 12947119374136170301, 7447494665972854394,
	14894989331945708789, 3619642293480737450, 18326516432030604180, 10482696495785204461,
	13241800701938835314, 8036857338758053605, 15709634614016367017, 12608445084362644619,
	6406066033425044679, 12812132066850089359, 18264751896981853663, 17718679667780871007,
	16990615253262255807, 4447254574860534718, 3143522559155490559, 17010196902690978975,
	15573649723082471743, 12700555363865457278, 17677518439558758168, 9184700523909141981,
	3286296527802623682, 13932105275110610756, 9417466485101604488, 24108818557516284,
	48217637115032568, 96435274230065137, 3556510107175105201, 17836171990157223211,
	9502007612210533607, 557271159301450191, 8474054543064946782, 1865004567220123608,
	3730009134440247217, 18183170052337525393, 10196003734549647003, 1945263403979676982,
	14613678581637422384, 3057020809720203516, 16837193403721610909, 7868130499179604987,
	8376748777780570806, 9029905258333633576, 10700298289383498384, 10313364742795983456,
	2179985403292480705, 15447202655258830018, 1360429390938723525, 2720858781877447050,
}

func TestOf(t *testing.T) {
	for n, want := range map[uint64]uint64{
		0:         0,
		1:         6238072747940578789,
		2:         15839785061582574730,
		3:         2185194620014831856,
		7:         1346066267577507604,
		1<<30 - 1: 8118227900308582758,
		1 << 63:   2720858781877447050,
		1<<63 - 1: 6514504133438201533,
		top - 1:   15719503542151743746,
		top:       13029008266876403067,
		// Numbers that are known from elsewhere, since others mix so, too.
		11400714819324433052: 6457827717110365317,
		4354685564938079921:  3203168211198807973,
		15755400384261278406: 9817491932198370423,
		8709371129874925275:  4593380528125082431,
		1663341875488572144:  16408922859458223821,
	} {
		if got := mix.Of(n); got != want {
			t.Errorf("Of %d: %d, not %d", n, got, want)
		}
	}
}

func TestOfSingleBits(t *testing.T) {
	for bit, want := range singleBits {
		if got := mix.Of(1 << bit); got != want {
			t.Errorf("Of bit %d: %d, not %d", bit, got, want)
		}
	}
}

// mixedAsTold is a number mixed as the chapter's words say it, with numbers of any length.
func mixedAsTold(n uint64) uint64 {
	all := new(big.Int).Lsh(big.NewInt(1), 64)
	v := new(big.Int).SetUint64(n)
	fold := func(by uint) { v.Xor(v, new(big.Int).Rsh(v, by)) }
	multiply := func(by string) {
		factor, _ := new(big.Int).SetString(by, 10)
		v.Mod(v.Mul(v, factor), all)
	}
	fold(30)
	multiply("13787848793156543929")
	fold(27)
	multiply("10723151780598845931")
	fold(31)
	return v.Uint64()
}

func TestOfIsAsTold(t *testing.T) {
	for _, n := range someNumbers() {
		if got, want := mix.Of(n), mixedAsTold(n); got != want {
			t.Fatalf("Of %d: %d, not %d", n, got, want)
		}
	}
}

// someNumbers are a few thousand numbers, none twice: small and great ones, drawn ones, and of some of these those that differ by one bit.
func someNumbers() []uint64 {
	d := dice.From(5)
	var l []uint64
	seen := map[uint64]bool{}
	add := func(n uint64) {
		if !seen[n] {
			seen[n] = true
			l = append(l, n)
		}
	}
	addWithNeighbours := func(n uint64) {
		add(n)
		for bit := range 64 {
			add(n ^ 1<<bit)
		}
	}
	for n := range uint64(1000) {
		add(n)
		add(top - n)
		add(n << 54)
		add(uint64(d.UpTo(1<<31))<<33 ^ uint64(d.UpTo(1<<31))<<11 ^ uint64(d.UpTo(1<<11)))
	}
	for _, n := range []uint64{0, 1, top, top - 1, 1 << 63, 1<<63 - 1, 1 << 32, 0x5555555555555555} {
		addWithNeighbours(n)
	}
	for range 20 {
		addWithNeighbours(l[d.UpTo(len(l))])
	}
	return l
}

func TestMixedAreAlikeJustIfTheNumbersAre(t *testing.T) {
	l := someNumbers()
	if len(l) < 5000 {
		t.Fatalf("only %d numbers", len(l))
	}
	of := map[uint64]uint64{}
	for _, n := range l {
		m := mix.Of(n)
		if other, met := of[m]; met {
			t.Fatalf("of %d and of %d: %d", other, n, m)
		}
		of[m] = n
		if again := mix.Of(n); again != m {
			t.Fatalf("of %d: %d, then %d", n, m, again)
		}
	}
}

// unfolded undoes the xor of a number with itself moved right.
func unfolded(n uint64, by int) uint64 {
	for moved := by; moved < 64; moved *= 2 {
		n ^= n >> moved
	}
	return n
}

// unmixed is the number that is mixed so. The factors are those by which the chapter's ones are 1, modulo 2^64.
func unmixed(n uint64) uint64 {
	n = unfolded(n, 31) * 3573116690164977347
	n = unfolded(n, 27) * 10871156337175269513
	return unfolded(n, 30)
}

func TestWhatIsMixedCanBeUndone(t *testing.T) {
	for _, n := range someNumbers() {
		if back := unmixed(mix.Of(n)); back != n {
			t.Fatalf("of %d, undone: %d", n, back)
		}
		if m := mix.Of(unmixed(n)); m != n {
			t.Fatalf("%d undone, mixed: %d", n, m)
		}
	}
}

// sized is a call of Pick, and what it answers.
type sized struct {
	left, right int64
	want        bool
}

func TestPick(t *testing.T) {
	const most = 1 << 30
	for _, c := range []sized{
		{1, 1, true},
		{1, 2, false},   // 1 is left, as much as the left one
		{2, 1, false},   // 2 is left
		{2, 36, true},   // 1 is left, one less than the left one
		{2, 8, false},   // 2 is left
		{3, 20, false},  // 3 is left
		{200, 1, true},  // 104 is left
		{1, 200, false}, // 58 is left
		{5, 7, false},
		{7, 5, false},
		{100, 100, false},
		{1, most, false},
		{most, 1, true},
		{2, most, false},
		{most, 2, true},
		{most, most, true},
		{most - 1, most, true},
		{most, most - 1, false},
		{most, most / 2, true},
		{most / 2, most, false},
		// The right one reaches into the bits of the left one moved: both are added, neither xored nor laid over one another.
		{5, 5 << 20, false},
		{most - 4, most, true},
	} {
		if got, err := mix.Pick(c.left, c.right); got != c.want || err != api.OK {
			t.Errorf("Pick %d, %d: %v, %d", c.left, c.right, got, err)
		}
	}
}

func TestPickIsAsTold(t *testing.T) {
	d := dice.From(7)
	for range 5000 {
		bound := 1 << (1 + d.UpTo(30))
		left, right := uint64(1+d.UpTo(bound)), uint64(1+d.UpTo(bound))
		want := mixedAsTold(left*1048576+right)%(left+right) < left
		if got, err := mix.Pick(int64(left), int64(right)); got != want || err != api.OK {
			t.Fatalf("Pick %d, %d: %v, %d", left, right, got, err)
		}
	}
}

// Of two sizes, the left one is picked about as often as its part of both is.
func TestPickGoesBySizes(t *testing.T) {
	for _, c := range []struct{ left, right, least, most int }{
		{1, 1, 400, 600}, {1, 3, 175, 325}, {3, 1, 675, 825}, {1, 9, 50, 150}, {9, 1, 850, 950},
	} {
		picked := 0
		for n := 1; n <= 1000; n++ {
			is, err := mix.Pick(int64(c.left*n), int64(c.right*n))
			if err != api.OK {
				t.Fatalf("Pick %d, %d: %d", c.left*n, c.right*n, err)
			}
			if is {
				picked++
			}
		}
		if picked < c.least || picked > c.most {
			t.Errorf("of %d and %d the left one is picked %d times of 1000", c.left, c.right, picked)
		}
	}
}

func TestPickOfWhatMayNotBe(t *testing.T) {
	const most = 1 << 30
	wrong := []int64{
		0, -1, -2, -most, most + 1, most + 2, 1 << 31, 1 << 32, 1<<32 + 1, 1 << 44, 1<<44 + 1, 1 << 62,
		math.MinInt64, math.MinInt64 + 1, math.MaxInt64, math.MaxInt64 - 1,
	}
	right := []int64{1, 2, 3, 200, 1 << 20, most - 1, most}
	refuse := func(a, b int64) {
		if got, err := mix.Pick(a, b); got || err != api.ErrArg {
			t.Errorf("Pick %d, %d: %v, %d", a, b, got, err)
		}
	}
	for _, w := range wrong {
		for _, r := range right {
			refuse(w, r)
			refuse(r, w)
			refuse(w, -r)
			refuse(-r, w)
		}
		for _, other := range wrong {
			refuse(w, other)
		}
	}
	for _, r := range right { // their sum is 0
		refuse(r, -r)
		refuse(-r, r)
	}
}
