package crew

import (
	"sync"

	"timbre/api"
)

// Shares cuts n tasks into shares for so many workers: the first task of each, and n behind them.
func Shares(n, workers int) ([]int, error) {
	if n < 0 || n > api.MaxList {
		return nil, api.ErrRange
	}
	if !canWork(workers) {
		return nil, api.ErrWorkers
	}
	return shares(n, workers), nil
}

func canWork(workers int) bool { return workers >= 1 && workers <= api.MaxWorkers }

// shares are the numbers n i / workers, rounded down. There may be more tasks than Shares takes: n i is taken apart, so that it stays within an int.
func shares(n, workers int) []int {
	each, rest := n/workers, n%workers
	out := make([]int, workers+1)
	for i := range out {
		out[i] = each*i + rest*i/workers
	}
	return out
}

// share does n tasks by so many workers, each the tasks of its share in order, and waits for all of them. No task may touch what another one writes.
func share(n, workers int, do func(task int)) {
	var crew sync.WaitGroup
	first := shares(n, workers)
	for i := range workers {
		if first[i] == first[i+1] { // there are more workers than tasks
			continue
		}
		crew.Add(1)
		go func() {
			defer crew.Done()
			for task := first[i]; task < first[i+1]; task++ {
				do(task)
			}
		}()
	}
	crew.Wait()
}
