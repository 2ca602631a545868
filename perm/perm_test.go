package perm

import (
	"math"
	"math/rand"
	"slices"
	"sync"
	"testing"

	"timbre/api"
)

// all are all permutations of n.
func all(n int) [][]int {
	if n == 0 {
		return [][]int{{}}
	}
	var out [][]int
	for _, less := range all(n - 1) {
		for at := range n {
			out = append(out, slices.Insert(slices.Clone(less), at, n-1))
		}
	}
	return out
}

// several are all permutations up to 5, and greater ones by chance.
func several() [][]int {
	var out [][]int
	for n := range 6 {
		out = append(out, all(n)...)
	}
	r := rand.New(rand.NewSource(1))
	for _, n := range []int{6, 7, 16, 63, 64, 65, 128, 1000, 4097} {
		for range 4 {
			out = append(out, r.Perm(n))
		}
		out = append(out, oneCycle(n), same(n))
	}
	return out
}

// oneCycle is the permutation of n that goes round all places.
func oneCycle(n int) []int {
	out := same(n)
	return append(out[1:], 0)
}

func same(n int) []int {
	out := make([]int, n)
	for i := range out {
		out[i] = i
	}
	return out
}

// wrong are lists that are no permutations.
func wrong() [][]int {
	out := [][]int{{0, 0}, {1}, {-1}, {-1, 0}, {0, 2}, {1, 1}, {0, 1, 1}, {2, 0, 0}, {0, 1, 3}, {1, 2, 3}, {math.MaxInt}, {math.MinInt, 0}, {0, math.MaxInt}, {0, 1 << 32}, {1 << 32, 1}}
	great := same(5000)
	great[4999] = 0
	long := same(5000)
	long[17] = 5000
	return append(out, great, long)
}

// isPerm tells by the words of the chapter: each of 0 to n - 1 stands once.
func isPerm(p []int) bool {
	sorted := slices.Sorted(slices.Values(p))
	return slices.Equal(sorted, same(len(p)))
}

func TestCheckOfAllShortLists(t *testing.T) {
	good := 0
	for n := range 5 {
		for code := range int(math.Pow(float64(n+2), float64(n))) {
			p := make([]int, n)
			for i := range p {
				p[i], code = code%(n+2)-1, code/(n+2)
			}
			var want error
			if isPerm(p) {
				good++
			} else {
				want = api.ErrPerm
			}
			if err := Check(p); err != want {
				t.Errorf("Check(%v) is %v", p, err)
			}
		}
	}
	if good != 1+1+2+6+24 {
		t.Error("permutations met:", good)
	}
}

func TestCheck(t *testing.T) {
	if Check(nil) != nil || Check([]int{}) != nil {
		t.Error("the empty list is a permutation")
	}
	for _, p := range several() {
		was := slices.Clone(p)
		if err := Check(p); err != nil || !slices.Equal(p, was) {
			t.Errorf("Check of a permutation of %d is %v", len(p), err)
		}
	}
	for _, p := range wrong() {
		if Check(p) != api.ErrPerm {
			t.Errorf("Check of %d places: no error", len(p))
		}
	}
}

func TestWrongListsAreRefused(t *testing.T) {
	for _, p := range wrong() {
		n := len(p)
		if got, err := Inverse(p); len(got) != 0 || err != api.ErrPerm {
			t.Error("Inverse:", len(got), err)
		}
		if got, err := Sign(p); got != 0 || err != api.ErrPerm {
			t.Error("Sign:", got, err)
		}
		for range Cycles(p) {
			t.Error("Cycles goes over something")
			break
		}
		// A list that is no permutation is told ahead of lengths that differ.
		for _, length := range []int{n, n + 1, 0} {
			if got, err := After(p, same(length)); len(got) != 0 || err != api.ErrPerm {
				t.Error("After of a wrong one first:", len(got), err)
			}
			if got, err := After(same(length), p); len(got) != 0 || err != api.ErrPerm {
				t.Error("After of a wrong one second:", len(got), err)
			}
			if got, err := Moved(make([]complex128, length), p); len(got) != 0 || err != api.ErrPerm {
				t.Error("Moved:", len(got), err)
			}
			if err := Move(make([]complex128, length), p); err != api.ErrPerm {
				t.Error("Move:", err)
			}
		}
		if _, err := After(p, p); err != api.ErrPerm {
			t.Error("After of two wrong ones:", err)
		}
	}
}

func TestInverse(t *testing.T) {
	for _, p := range several() {
		was := slices.Clone(p)
		q, err := Inverse(p)
		if err != nil || len(q) != len(p) {
			t.Fatal("Inverse:", len(q), err)
		}
		for i := range p {
			if q[p[i]] != i {
				t.Fatalf("Inverse of a permutation of %d: the place %d is %d", len(p), p[i], q[p[i]])
			}
		}
		back, err := Inverse(q)
		if err != nil || !slices.Equal(back, p) {
			t.Fatal("Inverse of Inverse isn't the permutation:", err)
		}
		clear(q[:cap(q)])
		if !slices.Equal(p, was) {
			t.Fatal("Inverse shares memory with what it was given")
		}
	}
	if q, _ := Inverse([]int{2, 0, 1, 3}); !slices.Equal(q, []int{1, 2, 0, 3}) {
		t.Error("Inverse(2 0 1 3) is", q)
	}
}

func TestAfter(t *testing.T) {
	for n := range 5 {
		for _, p := range all(n) {
			for _, q := range all(n) {
				checkAfter(t, p, q)
			}
		}
	}
	r := rand.New(rand.NewSource(2))
	for _, n := range []int{17, 64, 999, 20000} {
		checkAfter(t, r.Perm(n), r.Perm(n))
	}
	p := []int{2, 0, 1, 3}
	if got, err := After(p, p); err != nil || !slices.Equal(got, []int{1, 2, 0, 3}) || p[0] != 2 {
		t.Error("After(p, p) is", got, err)
	}
}

func checkAfter(t *testing.T, p, q []int) {
	t.Helper()
	wasP, wasQ := slices.Clone(p), slices.Clone(q)
	got, err := After(p, q)
	if err != nil || len(got) != len(p) {
		t.Fatal("After:", len(got), err)
	}
	for i := range p {
		if got[i] != q[p[i]] {
			t.Fatalf("After(%v, %v) is %v", p, q, got)
		}
	}
	sign, _ := Sign(got)
	signP, _ := Sign(p)
	signQ, _ := Sign(q)
	if sign != signP*signQ {
		t.Fatalf("the sign of After(%v, %v) is %d", p, q, sign)
	}
	clear(got[:cap(got)])
	if !slices.Equal(p, wasP) || !slices.Equal(q, wasQ) {
		t.Fatal("After shares memory with what it was given")
	}
}

func TestAfterRefusesUnlikeLengths(t *testing.T) {
	for _, lengths := range [][2]int{{0, 1}, {1, 0}, {2, 3}, {3, 2}, {1000, 1}} {
		if got, err := After(same(lengths[0]), same(lengths[1])); len(got) != 0 || err != api.ErrLength {
			t.Errorf("After of lengths %v is %v, %v", lengths, got, err)
		}
	}
}

// cycles are the cycles of a permutation by the chapter's words: of each place the list that it is on, taken where the place is the least of it.
func cycles(p []int) [][]int {
	var out [][]int
	for i := range p {
		list := []int{i}
		for at := p[i]; at > i; at = p[at] {
			list = append(list, at)
		}
		if p[list[len(list)-1]] == i {
			out = append(out, list)
		}
	}
	return out
}

func equalLists(a, b [][]int) bool { return slices.EqualFunc(a, b, slices.Equal) }

func TestCycles(t *testing.T) {
	for _, p := range several() {
		was := slices.Clone(p)
		got := slices.Collect(Cycles(p))
		if !equalLists(got, cycles(p)) {
			t.Fatalf("Cycles of a permutation of %d: %v", len(p), got)
		}
		if places := slices.Concat(got...); !isPerm(places) || len(places) != len(p) {
			t.Fatalf("the cycles of a permutation of %d have the places %v", len(p), places)
		}
		for _, c := range got {
			for i, at := range c {
				if p[at] != c[(i+1)%len(c)] || c[0] > at {
					t.Fatalf("the cycle %v of a permutation of %d", c, len(p))
				}
			}
		}
		if !slices.Equal(p, was) {
			t.Fatal("Cycles changes what it was given")
		}
	}
	if got := slices.Collect(Cycles([]int{2, 0, 1, 3})); !equalLists(got, [][]int{{0, 2, 1}, {3}}) {
		t.Error("Cycles(2 0 1 3):", got)
	}
	if got := slices.Collect(Cycles(nil)); len(got) != 0 {
		t.Error("Cycles of nothing:", got)
	}
}

func TestCyclesMayBeStoppedAndGoneOverAgain(t *testing.T) {
	p := []int{0, 2, 1, 4, 5, 3, 6, 8, 7}
	seq, want := Cycles(p), cycles(p)
	for stop := 1; stop <= len(want); stop++ {
		var got [][]int
		for c := range seq {
			if got = append(got, c); len(got) == stop {
				break
			}
		}
		if !equalLists(got, want[:stop]) {
			t.Errorf("stopped behind %d: %v", stop, got)
		}
	}
	for outer := range seq {
		if got := slices.Collect(seq); !equalLists(got, want) {
			t.Errorf("gone over within the cycle %v: %v", outer, got)
		}
	}
}

func TestCyclesTellWhatWasThere(t *testing.T) {
	p := []int{2, 0, 1, 4, 3}
	want := cycles(p)
	seq := Cycles(p)
	copy(p, []int{9, 9, 9, 9, 9})
	if got := slices.Collect(seq); !equalLists(got, want) {
		t.Error("behind a write into the list:", got)
	}
	late := []int{0, 0}
	seq = Cycles(late)
	late[1] = 1
	for c := range seq {
		t.Error("a list that was no permutation at the call tells", c)
	}
	p = []int{1, 0, 2}
	for c := range Cycles(p) {
		clear(p)
		if c[0] == 2 && len(c) != 1 {
			t.Error("behind a write on the way:", c)
		}
	}
}

func TestCyclesAreNewLists(t *testing.T) {
	p := []int{1, 2, 0, 4, 3, 5, 7, 6}
	want := cycles(p)
	seq := Cycles(p)
	for range 2 {
		at := 0
		var kept [][]int
		for c := range seq {
			if !slices.Equal(c, want[at]) {
				t.Fatalf("cycle %d is %v", at, c)
			}
			kept = append(kept, slices.Clone(c))
			c = c[:cap(c)]
			for i := range c {
				c[i] = -1
			}
			at++
		}
		if !equalLists(kept, want) {
			t.Error("with writes into each cycle:", kept)
		}
	}
	got := slices.Collect(seq)
	for _, c := range got {
		for i := len(c); i < cap(c); i++ {
			c[:cap(c)][i] = -1
		}
	}
	if !equalLists(got, want) || p[0] != 1 {
		t.Error("with writes into spare room:", got)
	}
}

func TestCyclesBySeveralGoroutines(t *testing.T) {
	p := rand.New(rand.NewSource(3)).Perm(500)
	want := cycles(p)
	seq := Cycles(p)
	var group sync.WaitGroup
	for range 8 {
		group.Go(func() {
			if got := slices.Collect(seq); !equalLists(got, want) {
				t.Error("a goroutine meets other cycles")
			}
		})
	}
	group.Wait()
}

func TestSign(t *testing.T) {
	for _, p := range several() {
		want := 1
		if (len(p)-len(cycles(p)))%2 == 1 {
			want = -1
		}
		if got, err := Sign(p); got != want || err != nil {
			t.Fatalf("Sign of a permutation of %d is %d, %v", len(p), got, err)
		}
		q, _ := Inverse(p)
		if got, _ := Sign(q); got != want {
			t.Fatalf("Sign of the inverse of a permutation of %d is %d", len(p), got)
		}
		if len(p) <= 65 && want != signByPairs(p) {
			t.Fatalf("Sign(%v) isn't that of its pairs", p)
		}
	}
	if got, err := Sign(nil); got != 1 || err != nil {
		t.Error("Sign of the empty one is", got, err)
	}
}

// signByPairs counts the pairs that stand the wrong way round: another way to the same sign.
func signByPairs(p []int) int {
	sign := 1
	for i := range p {
		for j := range i {
			if p[j] > p[i] {
				sign = -sign
			}
		}
	}
	return sign
}
