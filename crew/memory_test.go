package crew

import (
	"math"
	"math/rand"
	"slices"
	"sync"
	"testing"

	"timbre/api"
	"timbre/order"
	"timbre/plan"
)

// calls are all calls that answer lists, of one plan and of as many workers and turns as may be.
func calls(p *plan.Plan, lists [][]complex128, turns []api.Turn) map[string]func() [][]complex128 {
	return map[string]func() [][]complex128{
		"Many":         func() [][]complex128 { return must(Many(p, lists, false, 3)) },
		"Many inverse": func() [][]complex128 { return must(Many(p, lists, true, api.MaxWorkers)) },
		"By":           func() [][]complex128 { return must(By(p, lists, false, turns)) },
		"By inverse":   func() [][]complex128 { return must(By(p, lists, true, turns)) },
		"Split": func() [][]complex128 {
			var out [][]complex128
			for _, x := range lists {
				out = append(out, must(Split(p.Order(), x, 2)))
			}
			return out
		},
	}
}

// roomy is x with spare room behind it.
func roomy(x []complex128) []complex128 {
	out := append(slices.Clone(x), 7, 8, 9)
	return out[:len(x)]
}

func bitsOf(x []complex128) []uint64 {
	var out []uint64
	for _, v := range x[:cap(x)] {
		out = append(out, math.Float64bits(real(v)), math.Float64bits(imag(v)))
	}
	return out
}

func spoil(x []complex128) {
	for i := range x[:cap(x)] {
		x[:cap(x)][i] = complex(nan, -5)
	}
}

func TestMemory(t *testing.T) {
	r := rand.New(rand.NewSource(10))
	for _, s := range []string{"d1", "f2", "d5", "(f2 x d3)", "(d2 x f2)", "b3(f5)"} {
		p := must(plan.Of(parsed(s), api.Wide))
		var lists [][]complex128
		for _, x := range anyLists(r, p.Length(), 4) {
			lists = append(lists, roomy(x))
		}
		turns := []api.Turn{{Task: 0, Acts: 1}, {Task: 1, Acts: 4}, {Task: 0, Acts: 30}, {Task: 99, Acts: -1}}[:3] // the last one is spare room
		turnsBefore := slices.Clone(turns[:cap(turns)])
		var before [][]uint64
		for _, x := range lists {
			before = append(before, bitsOf(x))
		}
		for name, call := range calls(p, lists, turns) {
			want := call()
			got := call()
			held(t, name, got, nil, want)
			for _, y := range got { // no other list changes, none of the arguments, and nothing that is kept
				spoil(y)
			}
			held(t, name, call(), nil, want)
			for i, x := range lists {
				if !slices.Equal(bitsOf(x), before[i]) {
					t.Errorf("%s by %s: the list %d is changed", name, s, i)
				}
			}
			if !slices.Equal(turns[:cap(turns)], turnsBefore) {
				t.Errorf("%s by %s: the turns are changed", name, s)
			}
			holdApart(t, name, want)
		}
	}
}

// holdApart asks that a write into one list, spare room included, is seen in no other one.
func holdApart(t *testing.T, name string, lists [][]complex128) {
	t.Helper()
	before := make([][]uint64, len(lists))
	for i, y := range lists {
		before[i] = bitsOf(y)
	}
	for i, y := range lists {
		spoil(y)
		for k := i + 1; k < len(lists); k++ {
			if !slices.Equal(bitsOf(lists[k]), before[k]) {
				t.Errorf("%s: the lists %d and %d share memory", name, i, k)
			}
		}
	}
}

// What is written into the lists and turns behind a call isn't seen in what it answered.
func TestNothingIsKept(t *testing.T) {
	p := must(plan.Of(parsed("(f2 x d3)"), api.Deep))
	for _, name := range []string{"Many", "Many inverse", "By", "By inverse", "Split"} {
		r := rand.New(rand.NewSource(11))
		lists := anyLists(r, 6, 5)
		turns := []api.Turn{{Task: 1, Acts: 3}, {Task: 4, Acts: 9}}
		call := calls(p, lists, turns)[name]
		got := call()
		var before [][]uint64
		for _, y := range got {
			before = append(before, bitsOf(y))
		}
		for _, x := range lists {
			spoil(x)
		}
		clear(lists)
		clear(turns)
		for i, y := range got {
			if !slices.Equal(bitsOf(y), before[i]) {
				t.Errorf("%s: the answer %d changes behind the call", name, i)
			}
		}
	}
}

// One list may stand in several places, and lists may overlap.
func TestListsThatShareMemory(t *testing.T) {
	r := rand.New(rand.NewSource(12))
	p := must(plan.Of(parsed("(d2 x f3)"), api.Deep))
	x := anyList(r, 20, false)
	lists := [][]complex128{x[:6], x[3:9], x[:6], x[9:15], x[14:20], x[:6]}
	turns := []api.Turn{{Task: 0, Acts: 4}, {Task: 2, Acts: 9}, {Task: 1, Acts: 100}, {Task: 5, Acts: 1}}
	for _, inverse := range []bool{false, true} {
		want := toldMany(p, lists, inverse)
		got, err := Many(p, lists, inverse, 6)
		held(t, "Many", got, err, want)
		holdApart(t, "Many", got)
		got, err = By(p, lists, inverse, turns)
		held(t, "By", got, err, want)
		holdApart(t, "By", got)
	}
}

// An order is neither changed nor kept.
func TestOrdersAreNotChanged(t *testing.T) {
	o := parsed("((d2 x f2) x b3((f2 x d3)))")
	text := must(order.Text(o))
	x := given(order.Length(o))
	want := must(Split(o, x, 2))
	if got := must(order.Text(o)); got != text {
		t.Errorf("the order is changed to %s", got)
	}
	clear(o.Kids)
	if got := must(Split(parsed(text), x, 2)); !alike(got, want) {
		t.Error("Split is another one behind a write into the order")
	}
}

// Several goroutines ask for one plan at a time.
func TestCrewsAtOneTime(t *testing.T) {
	r := rand.New(rand.NewSource(13))
	p := must(plan.Of(parsed("(f3 x (d2 x b3(f5)))"), api.Wide))
	lists := anyLists(r, p.Length(), 9)
	turns := anyTurns(r, len(lists), 40)
	var all sync.WaitGroup
	for name, call := range calls(p, lists, turns) {
		want := call()
		for range 4 {
			all.Go(func() {
				got := call()
				for i := range want {
					if !alike(got[i], want[i]) {
						t.Errorf("%s: the list %d is another one", name, i)
					}
				}
			})
		}
	}
	all.Wait()
}
