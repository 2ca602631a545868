package perm

import (
	"math"
	"math/rand"
	"slices"
	"testing"

	"timbre/api"
)

// turnedRound is i turned round, by the chapter's words: its digits taken apart, and put together from the other end.
func turnedRound(i int, radices []int) int {
	digits := make([]int, len(radices))
	for j, r := range radices {
		digits[j], i = i%r, i/r
	}
	out := 0
	for j, d := range digits {
		out = out*radices[j] + d
	}
	return out
}

func checkDigits(t *testing.T, radices []int) {
	t.Helper()
	was := slices.Clone(radices)
	n := 1
	for _, r := range radices {
		n *= r
	}
	p, err := Digits(radices)
	if err != nil || len(p) != n || Check(p) != nil {
		t.Fatalf("Digits(%v) has %d places, %v", radices, len(p), err)
	}
	for i := range p {
		if p[i] != turnedRound(i, radices) {
			t.Fatalf("Digits(%v): the place %d is %d", radices, i, p[i])
		}
	}
	back := slices.Clone(radices)
	slices.Reverse(back)
	undone, err := Digits(back)
	if err != nil {
		t.Fatalf("Digits(%v): %v", back, err)
	}
	inverse, _ := Inverse(p)
	if !slices.Equal(undone, inverse) {
		t.Fatalf("Digits(%v) and Digits(%v) don't undo one another", radices, back)
	}
	for _, pair := range [][2][]int{{p, undone}, {undone, p}} {
		if both, _ := After(pair[0], pair[1]); !slices.Equal(both, same(n)) {
			t.Fatalf("Digits(%v) and Digits(%v) don't undo one another", radices, back)
		}
	}
	if !slices.Equal(radices, was) {
		t.Fatalf("Digits(%v) changes the radices: %v", was, radices)
	}
}

func TestDigitsOfFewRadices(t *testing.T) {
	checkDigits(t, nil)
	checkDigits(t, []int{})
	for a := 1; a <= 9; a++ {
		checkDigits(t, []int{a})
		for b := 1; b <= 9; b++ {
			checkDigits(t, []int{a, b})
			for c := 1; c <= 9; c++ {
				checkDigits(t, []int{a, b, c})
			}
		}
	}
}

func TestDigitsOfManyRadices(t *testing.T) {
	r := rand.New(rand.NewSource(4))
	for range 200 {
		var radices []int
		for left := api.MaxInner; ; {
			next := 1 + r.Intn(6)
			if left /= next; left == 0 || len(radices) > 20 {
				break
			}
			radices = append(radices, next)
		}
		checkDigits(t, radices)
	}
	for _, radices := range [][]int{slices.Repeat([]int{2}, 14), slices.Repeat([]int{4}, 7), {128, 128}, {16384}, {1, 16384, 1}, {8192, 2}, {2, 8192}, {3, 5461}, {5461, 3}, {16383}} {
		checkDigits(t, radices)
	}
}

func TestDigitsExamples(t *testing.T) {
	for _, c := range []struct {
		radices, want []int
	}{
		{[]int{2, 2, 2}, []int{0, 4, 2, 6, 1, 5, 3, 7}},
		{[]int{2, 3}, []int{0, 3, 1, 4, 2, 5}},
		{[]int{3, 2}, []int{0, 2, 4, 1, 3, 5}},
		{[]int{5}, []int{0, 1, 2, 3, 4}},
		{nil, []int{0}},
		{[]int{1, 1}, []int{0}},
	} {
		if got, err := Digits(c.radices); err != nil || !slices.Equal(got, c.want) {
			t.Errorf("Digits(%v) is %v, %v", c.radices, got, err)
		}
	}
}

func TestDigitsOfVeryManyOnes(t *testing.T) {
	ones := slices.Repeat([]int{1}, 1<<20)
	radices := slices.Concat(ones, []int{128}, ones, []int{128}, ones)
	want, _ := Digits([]int{128, 128})
	if got, err := Digits(radices); err != nil || !slices.Equal(got, want) {
		t.Error("Digits with ones between:", len(got), err)
	}
}

func TestDigitsRefuses(t *testing.T) {
	third := math.MaxInt/3 + 1 // three times it wraps round
	for _, c := range []struct {
		radices []int
		want    error
	}{
		{[]int{0}, api.ErrRange},
		{[]int{-1}, api.ErrRange},
		{[]int{-2, -2}, api.ErrRange},
		{[]int{math.MinInt}, api.ErrRange},
		{[]int{2, 0, 2}, api.ErrRange},
		{[]int{65536, 65536, 65536, 65536, 0}, api.ErrRange},
		{[]int{16385, -1}, api.ErrRange},
		{[]int{0, math.MaxInt}, api.ErrRange},
		{[]int{65537}, api.ErrLength},
		{[]int{16385}, api.ErrLength},
		{[]int{128, 129}, api.ErrLength},
		{[]int{5462, 3}, api.ErrLength},
		{[]int{math.MaxInt}, api.ErrLength},
		{[]int{math.MaxInt, math.MaxInt}, api.ErrLength}, // 1 modulo 2^64
		{[]int{1 << 32, 1 << 32}, api.ErrLength},         // 0 modulo 2^64
		{[]int{65536, 65536, 65536, 65536}, api.ErrLength},
		{[]int{3, third}, api.ErrLength},
		{[]int{3, third, 2}, api.ErrLength},
		{slices.Repeat([]int{2}, 15), api.ErrLength},
		{slices.Repeat([]int{2}, 64), api.ErrLength},
		{slices.Repeat([]int{2}, 1000), api.ErrLength},
	} {
		if got, err := Digits(c.radices); len(got) != 0 || err != c.want {
			t.Errorf("Digits(%v) has %d places, %v", c.radices, len(got), err)
		}
	}
}

func TestDigitsAreNewMemory(t *testing.T) {
	first, _ := Digits([]int{2, 3})
	clear(first[:cap(first)])
	if got, _ := Digits([]int{2, 3}); !slices.Equal(got, []int{0, 3, 1, 4, 2, 5}) {
		t.Error("Digits(2, 3) is", got, "behind a write into the answer")
	}
}
