package crew

import (
	"bytes"
	"math"
	"math/big"
	"runtime"
	"slices"
	"sync"
	"sync/atomic"
	"testing"
	"time"

	"timbre/api"
	"timbre/order"
	"timbre/plan"
)

// holdShares holds shares against n i / workers, reckoned in numbers of any size, and against what P21.4 says of them.
func holdShares(t *testing.T, got []int, n, workers int) {
	t.Helper()
	if len(got) != workers+1 || got[0] != 0 || got[workers] != n {
		t.Fatalf("the shares of %d for %d are %v", n, workers, got)
	}
	least, most := n, 0
	for i := range got {
		want := new(big.Int).Mul(big.NewInt(int64(n)), big.NewInt(int64(i)))
		want.Div(want, big.NewInt(int64(workers)))
		if want.Cmp(big.NewInt(int64(got[i]))) != 0 {
			t.Fatalf("the share %d of %d for %d begins at %d, want %v", i, n, workers, got[i], want)
		}
		if i > 0 {
			least, most = min(least, got[i]-got[i-1]), max(most, got[i]-got[i-1])
		}
	}
	if least < 0 || most-least > 1 {
		t.Errorf("the shares of %d for %d have from %d to %d", n, workers, least, most)
	}
}

// P21.1, P21.4.
func TestShares(t *testing.T) {
	var counts []int
	for n := range 300 {
		counts = append(counts, n, api.MaxList-n)
	}
	for workers := 1; workers <= api.MaxWorkers; workers++ {
		for _, n := range counts {
			got, err := Shares(n, workers)
			if err != nil {
				t.Fatalf("Shares(%d, %d): %v", n, workers, err)
			}
			holdShares(t, got, n, workers)
		}
		for _, n := range []int{api.MaxList + 1, math.MaxInt32, math.MaxInt} { // more lists than Shares takes
			holdShares(t, shares(n, workers), n, workers)
		}
	}
}

func TestSharesRefuses(t *testing.T) {
	wrongWorkers := []int{math.MinInt, -1, 0, api.MaxWorkers + 1, math.MaxInt}
	for _, n := range []int{math.MinInt, -1, api.MaxList + 1, math.MaxInt} {
		for _, workers := range append(wrongWorkers, anyWorkers...) {
			got, err := Shares(n, workers)
			refused(t, "a wrong number of tasks", got, err, api.ErrRange)
		}
	}
	for _, n := range []int{0, 1, api.MaxList} {
		for _, workers := range wrongWorkers {
			got, err := Shares(n, workers)
			refused(t, "a wrong number of workers", got, err, api.ErrWorkers)
		}
	}
}

func TestSharesAreNewMemory(t *testing.T) {
	first, _ := Shares(10, 3)
	first = first[:cap(first)]
	for i := range first {
		first[i] = -7
	}
	if again, err := Shares(10, 3); err != nil || !slices.Equal(again, []int{0, 3, 6, 10}) {
		t.Errorf("Shares is %v, %v behind a write into an earlier answer", again, err)
	}
}

// Each task is done once, ahead of the end of the call, by at most so many workers at a time.
func TestTasksAreDone(t *testing.T) {
	for workers := 1; workers <= api.MaxWorkers; workers++ {
		for _, n := range []int{0, 1, workers - 1, workers, workers + 1, 5 * workers} {
			var atWork atomic.Int32
			done := make([]int, n)
			share(n, workers, func(task int) {
				if atWork.Add(1) > int32(workers) {
					t.Errorf("more than %d workers at work", workers)
				}
				time.Sleep(time.Microsecond)
				done[task]++
				atWork.Add(-1)
			})
			if atWork.Load() != 0 || slices.ContainsFunc(done, func(times int) bool { return times != 1 }) {
				t.Fatalf("%d tasks, %d workers: they are done so many times: %v", n, workers, done)
			}
		}
	}
}

// So many workers are at work together: each waits in its first task till all of them are there.
func TestWorkersAreTogether(t *testing.T) {
	for _, workers := range anyWorkers {
		for _, n := range []int{workers, 3*workers + 1} {
			var here sync.WaitGroup
			here.Add(workers)
			ended := make(chan bool)
			go func() {
				var arrived atomic.Int32
				share(n, workers, func(int) {
					if arrived.Add(1) <= int32(workers) {
						here.Done()
						here.Wait()
					}
				})
				close(ended)
			}()
			select {
			case <-ended:
			case <-time.After(20 * time.Second):
				t.Fatalf("of %d workers some never come", workers)
			}
		}
	}
}

// callsBy are calls of which many workers may do the lists of Many, the parts by B of one product, and those by A of the other one; of two tasks there are two workers, so that the other part of a product shows no more.
func callsBy(workers int) map[string]func() {
	whole := parsed("(d64 x d64)")
	p := must(plan.Of(whole, api.Deep))
	x := given(2 * p.Length())
	lists := slices.Repeat([][]complex128{x[:p.Length()]}, 16)
	return map[string]func(){
		"Many":    func() { must(Many(p, lists, false, workers)) },
		"Split B": func() { must(Split(order.Times(whole, order.Fly(2)), x, workers)) },
		"Split A": func() { must(Split(order.Times(order.Fly(2), whole), x, workers)) },
	}
}

func TestWorkersAreSeen(t *testing.T) {
	for name, call := range callsBy(16) {
		there := 0
		for begun := time.Now(); there < 10 && time.Since(begun) < 20*time.Second; {
			there, _ = workersOf(call)
		}
		if there < 10 {
			t.Errorf("%s: %d workers of 16 were seen", name, there)
		}
	}
}

func TestOneWorkerIsAlone(t *testing.T) {
	for name, call := range callsBy(1) {
		if _, atWork := workersOf(call); atWork > 1 {
			t.Errorf("%s: %d are at work beside one worker", name, atWork)
		}
	}
}

// workersOf looks, again and again, how many goroutines share has begun that aren't ended, and how many of all are in a transform. It reads their stacks: the mere number of goroutines is told only about.
func workersOf(call func()) (there, atWork int) {
	ended := make(chan bool)
	go func() {
		call()
		close(ended)
	}()
	stacks := make([]byte, 1<<18)
	for {
		select {
		case <-ended:
			return there, atWork
		default:
			seen := stacks[:runtime.Stack(stacks, true)]
			there = max(there, bytes.Count(seen, []byte("created by timbre/crew.share")))
			atWork = max(atWork, bytes.Count(seen, []byte("timbre/plan.(*Plan).Forward(")))
			runtime.Gosched()
		}
	}
}
