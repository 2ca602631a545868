package perm

import (
	"math"
	"math/rand"
	"slices"
	"testing"

	"timbre/api"
)

// elements are n complex numbers, no two alike, with noughts of both signs, infinities, NaN and denormals among them.
func elements(n int) []complex128 {
	minusZero := math.Copysign(0, -1)
	first := []complex128{complex(0, 0), complex(minusZero, 0), complex(0, minusZero), complex(math.NaN(), 1), complex(math.Inf(1), math.Inf(-1)), complex(1, math.NaN()), complex(0x1p-1074, -0x1p-1074), complex(math.MaxFloat64, 0x1p-1022)}
	for i := len(first); i < n; i++ {
		first = append(first, complex(float64(i), -float64(i)/3))
	}
	return first[:n]
}

func alike(a, b complex128) bool {
	return alikeFloats(real(a), real(b)) && alikeFloats(imag(a), imag(b))
}

func alikeFloats(x, y float64) bool {
	return math.Float64bits(x) == math.Float64bits(y) || x != x && y != y
}

func alikeLists(a, b []complex128) bool { return slices.EqualFunc(a, b, alike) }

// byPlaces is list moved by p, by the chapter's words.
func byPlaces(list []complex128, p []int) []complex128 {
	out := make([]complex128, len(p))
	for i := range out {
		out[i] = list[p[i]]
	}
	return out
}

// byCycles is list moved step by step along the cycles of p.
func byCycles(list []complex128, p []int) []complex128 {
	out := make([]complex128, len(p))
	for c := range Cycles(p) {
		for i, at := range c {
			out[at] = list[c[(i+1)%len(c)]]
		}
	}
	return out
}

func TestMovedAndMove(t *testing.T) {
	for _, p := range several() {
		list := elements(len(p))
		wasP := slices.Clone(p)
		want := byPlaces(list, p)
		got, err := Moved(list, p)
		if err != nil || !alikeLists(got, want) {
			t.Fatalf("Moved by a permutation of %d: %v", len(p), err)
		}
		if !alikeLists(byCycles(list, p), want) {
			t.Fatalf("moving along the cycles of a permutation of %d isn't moving by it", len(p))
		}
		if !alikeLists(list, elements(len(p))) {
			t.Fatal("Moved changes the list")
		}
		clear(got[:cap(got)])
		if !alikeLists(list, elements(len(p))) {
			t.Fatal("Moved answers the list's memory")
		}
		if err := Move(list, p); err != nil || !alikeLists(list, want) {
			t.Fatalf("Move by a permutation of %d: %v", len(p), err)
		}
		if !slices.Equal(p, wasP) {
			t.Fatal("the permutation is changed")
		}
	}
}

func TestMovedThereAndBack(t *testing.T) {
	for _, p := range several() {
		list := elements(len(p))
		q, _ := Inverse(p)
		for _, pair := range [][2][]int{{p, q}, {q, p}} {
			there, _ := Moved(list, pair[0])
			back, err := Moved(there, pair[1])
			if err != nil || !alikeLists(back, list) {
				t.Fatalf("moved by a permutation of %d and back: %v", len(p), err)
			}
		}
	}
}

func TestMovedByAfter(t *testing.T) {
	check := func(p, q []int) {
		list := elements(len(p))
		both, _ := After(p, q)
		got, err := Moved(list, both)
		first, _ := Moved(list, q)
		want, _ := Moved(first, p)
		if err != nil || !alikeLists(got, want) {
			t.Fatalf("Moved by After of permutations of %d: %v", len(p), err)
		}
	}
	for n := range 5 {
		for _, p := range all(n) {
			for _, q := range all(n) {
				check(p, q)
			}
		}
	}
	r := rand.New(rand.NewSource(5))
	for _, n := range []int{10, 100, 3000} {
		check(r.Perm(n), r.Perm(n))
	}
}

func TestMoveLeavesSpareRoom(t *testing.T) {
	room := elements(12)
	list := room[2:6]
	if err := Move(list, []int{3, 2, 1, 0}); err != nil {
		t.Fatal(err)
	}
	want := elements(12)
	slices.Reverse(want[2:6])
	if !alikeLists(room, want) {
		t.Error("Move changes what stands beside the list:", room)
	}
	if _, err := Moved(list, []int{1, 0, 3, 2}); err != nil || !alikeLists(room, want) {
		t.Error("Moved changes what stands beside the list:", room, err)
	}
}

func TestMoveRefuses(t *testing.T) {
	for _, c := range []struct {
		length int
		p      []int
		want   error
	}{
		{4, []int{0}, api.ErrLength},
		{4, nil, api.ErrLength},
		{0, []int{0}, api.ErrLength},
		{3, []int{3, 2, 1, 0}, api.ErrLength},
		{5, []int{3, 2, 1, 0}, api.ErrLength},
		{4, []int{1, 0, 3, 3}, api.ErrPerm},
		{4, []int{1, 2, 3, 4}, api.ErrPerm},
		{4, []int{0, 0}, api.ErrPerm},
		{0, []int{1}, api.ErrPerm},
	} {
		list := elements(c.length)
		if got, err := Moved(list, c.p); len(got) != 0 || err != c.want {
			t.Errorf("Moved of %d by %v is %v, %v", c.length, c.p, got, err)
		}
		if err := Move(list, c.p); err != c.want || !alikeLists(list, elements(c.length)) {
			t.Errorf("Move of %d by %v is %v, and leaves %v", c.length, c.p, err, list)
		}
	}
	if got, err := Moved(nil, nil); len(got) != 0 || err != nil {
		t.Error("Moved of nothing:", got, err)
	}
	if err := Move(nil, []int{}); err != nil {
		t.Error("Move of nothing:", err)
	}
}

func TestMovesExample(t *testing.T) {
	list := []complex128{1, 2, 3, 4}
	want := []complex128{3, 1, 2, 4}
	if got, err := Moved(list, []int{2, 0, 1, 3}); err != nil || !alikeLists(got, want) {
		t.Error("Moved:", got, err)
	}
	if err := Move(list, []int{2, 0, 1, 3}); err != nil || !alikeLists(list, want) {
		t.Error("Move:", list, err)
	}
}

func TestTurned(t *testing.T) {
	for rows := 1; rows <= 12; rows++ {
		for columns := range 13 {
			n := rows * columns
			list := elements(n)
			got, err := Turned(list, rows)
			if err != nil || len(got) != n {
				t.Fatalf("Turned of %d rows and %d columns: %d, %v", rows, columns, len(got), err)
			}
			for i := range rows {
				for j := range columns {
					if !alike(got[j*rows+i], list[i*columns+j]) {
						t.Fatalf("Turned of %d rows and %d columns: row %d, column %d", rows, columns, i, j)
					}
				}
			}
			checkTurnedAgain(t, list, got, rows, columns)
			clear(got[:cap(got)])
			if !alikeLists(list, elements(n)) {
				t.Fatal("Turned changes the list, or answers its memory")
			}
		}
	}
}

// checkTurnedAgain: turned twice is the list, and turning is moving by digits.
func checkTurnedAgain(t *testing.T, list, turned []complex128, rows, columns int) {
	t.Helper()
	if columns == 0 {
		return
	}
	if back, err := Turned(turned, columns); err != nil || !alikeLists(back, list) {
		t.Fatalf("Turned of Turned of %d rows and %d columns: %v", rows, columns, err)
	}
	p, _ := Digits([]int{rows, columns})
	if moved, err := Moved(list, p); err != nil || !alikeLists(moved, turned) {
		t.Fatalf("Moved by Digits(%d, %d) isn't Turned: %v", rows, columns, err)
	}
}

func TestTurnedOfGreatLists(t *testing.T) {
	for _, c := range [][2]int{{1, 20000}, {20000, 1}, {128, 128}, {300, 200}, {1024, 1024}} {
		list := elements(c[0] * c[1])
		turned, err := Turned(list, c[0])
		if err != nil {
			t.Fatal(c, err)
		}
		if at := c[0] * c[1] / 2; !alike(turned[at%c[1]*c[0]+at/c[1]], list[at]) {
			t.Error(c, "the element in the middle isn't where it belongs")
		}
		if back, err := Turned(turned, c[1]); err != nil || !alikeLists(back, list) {
			t.Error(c, "turned twice isn't the list:", err)
		}
	}
}

func TestTurnedRefuses(t *testing.T) {
	for _, c := range [][2]int{{6, 0}, {6, -1}, {6, -2}, {6, -6}, {6, 4}, {6, 5}, {6, 7}, {6, 12}, {6, math.MaxInt}, {6, math.MinInt}, {0, 0}, {0, -1}, {0, math.MinInt}, {1, 2}} {
		if got, err := Turned(elements(c[0]), c[1]); len(got) != 0 || err != api.ErrLength {
			t.Errorf("Turned of %d by %d rows is %v, %v", c[0], c[1], got, err)
		}
	}
	for _, rows := range []int{1, 3, 1 << 40, math.MaxInt} {
		if got, err := Turned(nil, rows); len(got) != 0 || err != nil {
			t.Errorf("Turned of nothing by %d rows is %v, %v", rows, got, err)
		}
	}
	got, err := Turned([]complex128{1, 2, 3, 4, 5, 6}, 2)
	if err != nil || !alikeLists(got, []complex128{1, 4, 2, 5, 3, 6}) {
		t.Error("Turned of 1 to 6 by 2 rows is", got, err)
	}
}
