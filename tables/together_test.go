package tables

import (
	"slices"
	"sync"
	"sync/atomic"
	"testing"

	"timbre/api"
	"timbre/cplx"
	"timbre/roots"
)

const askers = 16

// together lets many do the same thing, all from one moment on.
func together(do func(who int)) {
	var wait sync.WaitGroup
	start := make(chan struct{})
	for who := range askers {
		wait.Go(func() {
			<-start
			do(who)
		})
	}
	close(start)
	wait.Wait()
}

// A table that several ask for at once is made once; the making of a long one takes so long that others come meanwhile.
func TestMadeOnceForAll(t *testing.T) {
	x := New()
	lengths := []int{api.MaxInner, 16383, 5000, 3, 1}
	for i, n := range lengths {
		want, _ := roots.All(n)
		lists := make([][]complex128, askers)
		together(func(who int) {
			if who%2 == 0 { // so that both calls are among the first
				if w, err := x.At(n, who); err != nil || !cplx.Same(w, want[who%n]) {
					t.Errorf("At(%d, %d) is %v, %v", n, who, w, err)
				}
			}
			list, err := x.List(n)
			if err != nil || !cplx.SameList(list, want) {
				t.Errorf("List(%d) has %d elements, %v", n, len(list), err)
				return
			}
			clear(list)
			list[0] = complex(float64(who), 0)
			lists[who] = list
		})
		for who, list := range lists {
			if list == nil || list[0] != complex(float64(who), 0) {
				t.Fatalf("the list of %d that %d was told is another's too", n, who)
			}
		}
		if x.Made() != i+1 {
			t.Fatalf("behind %v Made is %d", lengths[:i+1], x.Made())
		}
	}
}

// One Drop of a table answers true, however many drop it at once.
func TestDroppedOnce(t *testing.T) {
	x := New()
	for i := range 200 {
		checkAt(t, x, 5, i)
		var had atomic.Int64
		together(func(int) {
			if x.Drop(5) {
				had.Add(1)
			}
		})
		if had.Load() != 1 || x.Made() != i+1 {
			t.Fatalf("%d had the table, Made is %d", had.Load(), x.Made())
		}
	}
}

// Asked and dropped at once: each answer is layer 7's, the sizes rise, and every table that was made is kept or was dropped.
func TestAskedAndDroppedTogether(t *testing.T) {
	x := New()
	var dropped atomic.Int64
	together(func(who int) {
		before := 0
		for i := range 400 {
			n := 1 + (i*(who+3)+who)%24
			want, _ := roots.Root(n, i)
			if w, err := x.At(n, i); err != nil || !cplx.Same(w, want) {
				t.Errorf("At(%d, %d) is %v, %v", n, i, w, err)
			}
			if list, err := x.List(n); err != nil || len(list) != n || !cplx.Same(list[i%n], want) {
				t.Errorf("List(%d) has %d elements, %v", n, len(list), err)
			}
			if who%3 == 0 && x.Drop(1+i%24) {
				dropped.Add(1)
			}
			if list := sizes(x); !slices.IsSorted(list) || len(slices.Compact(list)) > 24 {
				t.Errorf("Sizes are %v", list)
			}
			made := x.Made()
			if made < before {
				t.Errorf("Made falls from %d to %d", before, made)
			}
			before = made
		}
	})
	if kept := len(sizes(x)); x.Made() != int(dropped.Load())+kept {
		t.Errorf("%d made, %d dropped, %d kept", x.Made(), dropped.Load(), kept)
	}
}
