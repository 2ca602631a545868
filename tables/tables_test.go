package tables

import (
	"math"
	"math/rand"
	"slices"
	"testing"

	"timbre/api"
	"timbre/cplx"
	"timbre/roots"
)

// wrong are lengths of which there is no table.
func wrong() []int {
	return []int{0, -1, -4, -api.MaxInner, api.MaxInner + 1, 2 * api.MaxInner, roots.MaxTurn, roots.MaxTurn + 1, 1 << 32, 1<<32 + 4, math.MaxInt, math.MaxInt - 1, math.MinInt, math.MinInt + 4}
}

// edges are lengths that have one, the first and the last of them.
func edges() []int {
	return []int{1, 2, 3, 4, 5, 8, 97, 1000, 4096, 16383, api.MaxInner}
}

// turns are numbers of roots within the turn and outside of it, both ends of int among them.
func turns(n int) []int {
	return []int{0, 1, -1, n - 1, n, n + 1, -n, -n - 1, n / 2, n / 4, 3*n + 2, math.MaxInt, math.MaxInt - 1, math.MinInt, math.MinInt + 1}
}

func sizes(t *Tables) []int { return slices.Collect(t.Sizes()) }

func checkAt(t *testing.T, x *Tables, n, k int) {
	t.Helper()
	got, err := x.At(n, k)
	want, _ := roots.Root(n, k)
	if err != nil || !cplx.Same(got, want) {
		t.Fatalf("At(%d, %d) is %v, %v, want %v", n, k, got, err, want)
	}
}

// checkList answers the list, for those who write into it.
func checkList(t *testing.T, x *Tables, n int) []complex128 {
	t.Helper()
	got, err := x.List(n)
	want, _ := roots.All(n)
	if err != nil || len(got) != n || !cplx.SameList(got, want) {
		t.Fatalf("List(%d) has %d elements, %v, or others than All", n, len(got), err)
	}
	return got
}

func checkHeld(t *testing.T, x *Tables, made int, held ...int) {
	t.Helper()
	if x.Made() != made || !slices.Equal(sizes(x), held) {
		t.Fatalf("Made is %d and Sizes %v, want %d and %v", x.Made(), sizes(x), made, held)
	}
}

func TestExamples(t *testing.T) {
	x := New()
	checkHeld(t, x, 0)
	for _, k := range []int{1, -3} {
		if w, err := x.At(4, k); err != nil || !cplx.Same(w, complex(0, -1)) {
			t.Errorf("At(4, %d) is %v, %v", k, w, err)
		}
		checkHeld(t, x, 1, 4)
	}
	if l, err := x.List(4); err != nil || !slices.Equal(l, []complex128{1, -1i, -1, 1i}) {
		t.Errorf("List(4) is %v, %v", l, err)
	}
	checkHeld(t, x, 1, 4)
	checkList(t, x, 3)
	checkHeld(t, x, 2, 3, 4)
	if _, err := x.At(0, 1); err != api.ErrLength {
		t.Error("At(0, 1):", err)
	}
	if _, err := x.At(16385, 0); err != api.ErrLength {
		t.Error("At(16385, 0):", err)
	}
	if _, err := x.List(-1); err != api.ErrLength {
		t.Error("List(-1):", err)
	}
	checkHeld(t, x, 2, 3, 4)
	if !x.Drop(4) || x.Drop(4) {
		t.Error("Drop(4)")
	}
	checkHeld(t, x, 2, 3)
	checkAt(t, x, 4, 0)
	checkHeld(t, x, 3, 3, 4)
}

// A refused call makes nothing, keeps nothing, and tells no other result.
func TestWrongLengths(t *testing.T) {
	for _, held := range [][]int{nil, {4}} {
		x := New()
		for _, n := range held {
			checkAt(t, x, n, 0)
		}
		for _, n := range wrong() {
			for _, k := range []int{0, 1, -1, math.MinInt, math.MaxInt} {
				if w, err := x.At(n, k); err != api.ErrLength || !cplx.Same(w, 0) {
					t.Errorf("At(%d, %d) is %v, %v", n, k, w, err)
				}
			}
			if l, err := x.List(n); err != api.ErrLength || len(l) != 0 {
				t.Errorf("List(%d) has %d elements, %v", n, len(l), err)
			}
			if x.Drop(n) {
				t.Errorf("Drop(%d) is true", n)
			}
			checkHeld(t, x, len(held), held...)
		}
	}
}

// P8.2 in each order of asking: by At first, by List first, again, and behind a Drop.
func TestTablesAreLayer7s(t *testing.T) {
	all := edges()
	for n := 6; n <= 130; n++ {
		all = append(all, n)
	}
	slices.Sort(all)
	all = slices.Compact(all)
	byAt, byList := New(), New()
	for range 2 {
		for _, n := range all {
			for range 2 {
				for _, k := range turns(n) {
					checkAt(t, byAt, n, k)
				}
				checkList(t, byAt, n)
				checkList(t, byList, n)
				for _, k := range turns(n) {
					checkAt(t, byList, n, k)
				}
			}
		}
		for _, n := range all {
			if !byAt.Drop(n) || !byList.Drop(n) {
				t.Fatal("there was no table of", n)
			}
		}
		checkHeld(t, byAt, byAt.Made())
		checkHeld(t, byList, byList.Made())
	}
}

// Every root of some tables, and not only those at the edges of the turn.
func TestEveryRoot(t *testing.T) {
	x := New()
	for _, n := range []int{1, 2, 7, 12, 360, 16383, api.MaxInner} {
		for k := range n {
			checkAt(t, x, n, k)
			checkAt(t, x, n, k-n)
		}
	}
}

// P8.3: Made grows by each length that is asked for first, whichever call asks; a Drop lets the next asking, and no later one, make it again.
func TestMade(t *testing.T) {
	x := New()
	lengths := slices.Concat(edges(), []int{1, 4, 16383, 4})
	for i, n := range lengths {
		checkAt(t, x, n, i)
		checkList(t, x, n)
		if made := min(i+1, len(edges())); x.Made() != made {
			t.Fatalf("behind %v Made is %d", lengths[:i+1], x.Made())
		}
	}
	checkHeld(t, x, len(edges()), edges()...)
	for i := range 5 {
		for _, want := range []bool{true, false, false} {
			if x.Drop(97) != want {
				t.Fatalf("Drop isn't %v", want)
			}
			if x.Made() != len(edges())+i {
				t.Fatalf("Drop makes Made %d", x.Made())
			}
		}
		for range 3 {
			if i%2 == 0 {
				checkAt(t, x, 97, i)
			} else {
				checkList(t, x, 97)
			}
			checkHeld(t, x, len(edges())+i+1, edges()...)
		}
	}
}

// What a caller writes into a list, its spare room included, is seen nowhere: neither in the table nor in a list that was answered before.
func TestListsAreNewMemory(t *testing.T) {
	for _, n := range edges() {
		x := New()
		first, second := checkList(t, x, n), checkList(t, x, n)
		whole := second[:cap(second)]
		for i := range whole {
			whole[i] = complex(7, math.NaN())
		}
		if want, _ := roots.All(n); !cplx.SameList(first, want) {
			t.Fatalf("two lists of %d share memory", n)
		}
		checkList(t, x, n)
		for k := range min(n, 9) {
			checkAt(t, x, n, k)
		}
	}
}

func TestSizesRise(t *testing.T) {
	r := rand.New(rand.NewSource(3))
	x := New()
	var held []int
	for range 300 {
		n := 1 + r.Intn(2000)
		checkAt(t, x, n, 1)
		if !slices.Contains(held, n) {
			held = append(held, n)
			slices.Sort(held)
		}
		checkHeld(t, x, len(held), held...)
	}
}

// Rule 9: an iterator may be gone over again, and stopped early, and tells what was there when Sizes was called.
func TestSizesOfThen(t *testing.T) {
	x := New()
	none := x.Sizes()
	for _, n := range []int{9, 2, 5} {
		checkAt(t, x, n, 0)
	}
	then := x.Sizes()
	x.Drop(5)
	checkAt(t, x, 3, 0)
	for range 3 {
		if got := slices.Collect(then); !slices.Equal(got, []int{2, 5, 9}) {
			t.Errorf("Sizes of then are %v", got)
		}
		for range none {
			t.Error("new Tables have a size")
		}
		for stop := 1; stop <= 3; stop++ {
			var got []int
			for n := range then {
				if got = append(got, n); len(got) == stop {
					break
				}
			}
			if !slices.Equal(got, []int{2, 5, 9}[:stop]) {
				t.Errorf("stopped behind %d: %v", stop, got)
			}
		}
	}
	if got := sizes(x); !slices.Equal(got, []int{2, 3, 9}) {
		t.Errorf("Sizes of now are %v", got)
	}
}

// Whoever goes over the sizes may change the Tables on the way, and go over them within.
func TestCallsWithinSizes(t *testing.T) {
	x := New()
	for n := 1; n <= 6; n++ {
		checkAt(t, x, n, 0)
	}
	var went []int
	for n := range x.Sizes() {
		went = append(went, n)
		if !x.Drop(n) {
			t.Errorf("Drop(%d)", n)
		}
		checkAt(t, x, n+10, 1)
		if len(sizes(x)) != 6 || x.Made() != 6+n {
			t.Errorf("at %d: %v, %d", n, sizes(x), x.Made())
		}
	}
	if !slices.Equal(went, []int{1, 2, 3, 4, 5, 6}) {
		t.Errorf("went over %v", went)
	}
	checkHeld(t, x, 12, 11, 12, 13, 14, 15, 16)
}

// model is what Tables hold, by the chapter's words: the lengths whose tables are kept, rising, and the count.
type model struct {
	x    *Tables
	held []int
	made int
}

func (m *model) ask(n int) {
	at, had := slices.BinarySearch(m.held, n)
	if !had {
		m.held = slices.Insert(m.held, at, n)
		m.made++
	}
}

func (m *model) drop(n int) bool {
	at, had := slices.BinarySearch(m.held, n)
	if had {
		m.held = slices.Delete(m.held, at, at+1)
	}
	return had
}

// call does one call, any of them, and holds it against the model.
func (m *model) call(t *testing.T, r *rand.Rand) {
	t.Helper()
	n := 1 + r.Intn(12)
	if r.Intn(6) == 0 {
		list := wrong()
		n = list[r.Intn(len(list))]
		_, atErr := m.x.At(n, r.Int())
		_, listErr := m.x.List(n)
		if atErr != api.ErrLength || listErr != api.ErrLength || m.x.Drop(n) {
			t.Fatalf("the length %d: %v, %v", n, atErr, listErr)
		}
		return
	}
	switch r.Intn(3) {
	case 0:
		m.ask(n)
		checkAt(t, m.x, n, int(r.Uint64()))
	case 1:
		m.ask(n)
		clear(checkList(t, m.x, n))
	case 2:
		if want := m.drop(n); m.x.Drop(n) != want {
			t.Fatalf("Drop(%d) isn't %v", n, want)
		}
	}
}

// P8.1: any order of calls on several Tables; none of them sees the others.
func TestAnyOrderOfCalls(t *testing.T) {
	r := rand.New(rand.NewSource(8))
	for range 40 {
		all := []*model{{x: New()}, {x: New()}, {x: New()}}
		for range 150 {
			all[r.Intn(len(all))].call(t, r)
			for _, m := range all {
				checkHeld(t, m.x, m.made, m.held...)
			}
		}
	}
}
