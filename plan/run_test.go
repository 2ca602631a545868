package plan

import (
	"math"
	"math/rand"
	"slices"
	"sync"
	"testing"

	"timbre/api"
	"timbre/check"
	"timbre/machine"
	"timbre/order"
	"timbre/pack"
	"timbre/planner"
	"timbre/steps"
)

// under is a run, and what it is told to be.
type under struct {
	o       api.Order
	way     int
	x       []complex128
	inverse bool
	acts    int // of all
	done    int
}

func begun(t *testing.T, p *Plan, o api.Order, x []complex128, inverse bool) (*Run, *under) {
	t.Helper()
	r, err := p.Begin(x, inverse)
	if err != nil || r == nil {
		t.Fatalf("Begin of %s: %v", p.Text(), err)
	}
	acts, err := check.Acts(p.Program())
	if err != nil {
		t.Fatal(err)
	}
	u := &under{o: o, way: p.Way(), x: slices.Clone(x), inverse: inverse, acts: acts}
	u.hold(t, r)
	return r, u
}

func (u *under) result() []complex128 {
	if u.inverse {
		return new(oracle).inverse(u.o, u.x)
	}
	return new(oracle).forward(u.o, u.x)
}

// hold asks a run everything that changes nothing.
func (u *under) hold(t *testing.T, r *Run) {
	t.Helper()
	if got := r.Left(); got != u.acts-u.done {
		t.Fatalf("Left is %d, want %d, of %s", got, u.acts-u.done, textOf(u.o, u.way))
	}
	y, err := r.Result()
	if u.done < u.acts && (len(y) != 0 || err != api.ErrState) {
		t.Fatalf("Result is %v, %v where %d acts are left, of %s", y, err, u.acts-u.done, textOf(u.o, u.way))
	}
	if u.done == u.acts && (err != nil || !alike(y, u.result())) {
		t.Fatalf("Result is %v, %v, want %v, of %s", y, err, u.result(), textOf(u.o, u.way))
	}
	if got := r.Save(); !slices.Equal(got, stateOf(u.o, u.way, u.x, u.inverse, u.done)) {
		t.Fatalf("Save behind %d acts is %.200x, of %s", u.done, got, textOf(u.o, u.way))
	}
}

// do asks for so many acts, and holds the run behind them.
func (u *under) do(t *testing.T, r *Run, acts int) {
	t.Helper()
	did, want := 0, error(nil)
	switch {
	case acts < 0:
		want = api.ErrRange
	case u.done == u.acts:
		want = api.ErrDone
	default:
		did = min(acts, u.acts-u.done)
	}
	if got, err := r.Do(acts); got != did || err != want {
		t.Fatalf("Do(%d) is %d, %v, want %d, %v, of %s", acts, got, err, did, want, textOf(u.o, u.way))
	}
	u.done += did
	u.hold(t, r)
}

var someTexts = []string{"deep d1", "deep d3", "wide f5", "deep (f2 x d3)", "wide (d2 x (f3 x f2))", "deep (d2 x (f3 x f2))", "deep b2(f4)", "wide b3(b5((d3 x f3)))", "wide (b2(d3) x b2(f3))"}

// P20.1: each call, at each place of a run, in both directions.
func TestRuns(t *testing.T) {
	r := rand.New(rand.NewSource(39))
	for _, s := range someTexts {
		p := must(Parse(s))
		o := p.Order()
		for _, inverse := range []bool{false, true} {
			run, u := begun(t, p, o, anyList(r, p.Length(), r.Intn(3) == 0), inverse)
			for u.done < u.acts {
				for _, acts := range []int{0, -1, math.MinInt} {
					u.do(t, run, acts)
				}
				u.do(t, run, 1+r.Intn(3))
			}
			for _, acts := range []int{-1, 0, 1, math.MaxInt, math.MinInt} {
				u.do(t, run, acts)
			}
			run, u = begun(t, p, o, u.x, inverse)
			u.do(t, run, math.MaxInt)
		}
	}
}

// P20.2, P3: all cuts in two, pieces of all sizes, and any pieces; saved and taken up again behind each, by this plan and by others of its text.
func TestInPieces(t *testing.T) {
	r := rand.New(rand.NewSource(40))
	for _, s := range someTexts {
		p := must(Parse(s))
		plans := []*Plan{p, must(Parse(s)), must(Decode(p.Encode())), must(Of(p.Order(), p.Way()))}
		for _, inverse := range []bool{false, true} {
			x := anyList(r, p.Length(), r.Intn(3) == 0)
			want := must(p.Forward(x))
			if inverse {
				want = must(p.Inverse(x))
			}
			hold := func(next func(left int) int) {
				t.Helper()
				acts, run := 0, must(p.Begin(x, inverse))
				for i := 0; run.Left() > 0; i++ {
					acts += must(run.Do(next(run.Left())))
					if i%3 < 2 {
						run = must(plans[i%len(plans)].Resume(run.Save()))
					}
				}
				if all := must(check.Acts(p.Program())); acts != all {
					t.Errorf("%d acts of %d, of %s", acts, all, s)
				}
				if y, err := run.Result(); err != nil || !alike(y, want) {
					t.Fatalf("%s: the result is %v, %v, want %v", s, y, err, want)
				}
			}
			acts := must(p.Begin(x, inverse)).Left()
			for size := 1; size <= acts+1; size += 1 + size/5 {
				hold(func(int) int { return size })
			}
			for first := range acts + 1 {
				piece := first
				hold(func(left int) int {
					now := piece
					piece = left
					return now
				})
			}
			growing := 0
			hold(func(int) int { growing++; return growing })
			for range 5 {
				hold(func(left int) int { return r.Intn(left + 1) })
			}
		}
	}
}

// Example 6 of the whole, and longer runs in pieces.
func TestLongRunsInPieces(t *testing.T) {
	r := rand.New(rand.NewSource(41))
	for _, n := range []int{6, 17, 64, 97, 360, 1021} {
		o := must(planner.Choose(n, planner.Usual()))
		for _, way := range ways {
			p := must(Of(o, way))
			x := anyList(r, n, false)
			for _, inverse := range []bool{false, true} {
				run := must(p.Begin(x, inverse))
				most := 1 + run.Left()/20
				for run.Left() > 0 {
					must(run.Do(1 + r.Intn(most)))
					run = must(p.Resume(run.Save()))
				}
				want := must(p.Forward(x))
				if inverse {
					want = must(p.Inverse(x))
				}
				if !alike(must(run.Result()), want) {
					t.Errorf("the result of %s is another one in pieces", p.Text())
				}
			}
		}
	}
}

// A run goes on as it is behind Save; the one that is taken up doesn't touch it; runs of one plan don't touch one another.
func TestRunsApart(t *testing.T) {
	r := rand.New(rand.NewSource(42))
	p := must(Parse("deep (d2 x (f3 x f2))"))
	o := p.Order()
	var runs []*Run
	var told []*under
	for i := range 6 {
		run, u := begun(t, p, o, anyList(r, p.Length(), false), i%2 == 1)
		runs, told = append(runs, run), append(told, u)
	}
	for range 200 {
		i := r.Intn(len(runs))
		told[i].do(t, runs[i], r.Intn(6))
		state := runs[i].Save()
		again := must(p.Resume(state))
		clear(spare(runs[i].Save()))
		clear(state)
		other := *told[i]
		other.do(t, again, r.Intn(30))
		if y, err := again.Result(); err == nil {
			clear(spare(y))
			other.hold(t, again)
		}
		for k := range runs {
			told[k].hold(t, runs[k])
		}
	}
}

// Runs of one plan in several goroutines at a time.
func TestRunsAtATime(t *testing.T) {
	p := must(New(97))
	x := anyList(rand.New(rand.NewSource(43)), 97, false)
	want := must(p.Inverse(x))
	var all sync.WaitGroup
	for i := range 8 {
		all.Go(func() {
			run := must(p.Begin(x, true))
			for run.Left() > 0 {
				must(run.Do(50 + 10*i))
				run = must(p.Resume(run.Save()))
			}
			if !alike(must(run.Result()), want) {
				t.Error("the result of a run is another one")
			}
		})
	}
	all.Wait()
}

// toldResume is what bytes say, if they are those of a run of the plan: whether it is inverse, and layer 19's machine.
func toldResume(p *Plan, state []byte) (inverse bool, m *machine.Machine, ok bool) {
	head := textBytes(p.Text())
	if len(state) <= len(head) || state[0] > 1 || !slices.Equal(state[1:][:len(head)], head) {
		return false, nil, false
	}
	m, err := machine.Resume(p.Program(), state[1+len(head):])
	return state[0] == 1, m, err == nil
}

// holdResume holds what Resume makes of any bytes, and tells whether it takes them.
func holdResume(t *testing.T, p *Plan, state []byte) bool {
	t.Helper()
	inverse, m, ok := toldResume(p, state)
	before := slices.Clone(spare(state))
	run, err := p.Resume(state)
	if !slices.Equal(spare(state), before) {
		t.Fatalf("Resume changes the bytes")
	}
	if !ok {
		if run != nil || err != api.ErrState {
			t.Fatalf("%s: Resume of %.200x is %v, %v", p.Text(), state, run, err)
		}
		return false
	}
	if err != nil || run.Left() != m.Left() || !slices.Equal(run.Save(), state) {
		t.Fatalf("%s: Resume of %.200x: %v", p.Text(), state, err)
	}
	run.Do(math.MaxInt)
	m.Run(math.MaxInt)
	want := must(m.Out())
	if inverse {
		want = each(want, func(v complex128) complex128 { return new(oracle).over(conj(v), p.Length()) })
	}
	if y, err := run.Result(); err != nil || !alike(y, want) {
		t.Fatalf("%s: the result behind Resume of %.200x is %v, %v", p.Text(), state, y, err)
	}
	return true
}

// The bytes of a small run, written out.
func TestRunBytes(t *testing.T) {
	p := must(Parse("deep d1"))
	run := must(p.Begin([]complex128{complex(1, math.Inf(1))}, true))
	must(run.Do(1))
	one, minusInf := "\x00\x00\x00\x00\x00\x00\xf0\x3f", "\x00\x00\x00\x00\x00\x00\xf0\xff"
	written := "\x01" + "\x07deep d1" + "\x0b" + "\x01\x02\x00\x01\x01" + "\x06\x01\x00\x01\x01\x01" + "\x01" + "\x02" + one + minusInf + one + minusInf
	if got := string(run.Save()); got != written {
		t.Errorf("Save is %x, want %x", got, written)
	}
	if !holdResume(t, p, []byte(written)) {
		t.Error("the bytes aren't taken")
	}
}

// Every byte of a saved run changed, taken away and added, and every beginning of it.
func TestSpoiltRuns(t *testing.T) {
	met := map[bool]int{}
	for _, s := range []string{"deep d1", "wide f2"} {
		p := must(Parse(s))
		hold := func(state []byte) { t.Helper(); met[holdResume(t, p, state)]++ }
		acts := must(check.Acts(p.Program()))
		for done := range acts + 1 {
			state := stateOf(p.Order(), p.Way(), slices.Repeat([]complex128{complex(nan, -1)}, p.Length()), done%2 == 1, done)
			hold(state)
			for at := range state {
				hold(state[:at:at])
				hold(state[at:])
				hold(slices.Delete(slices.Clone(state), at, at+1))
				for b := range 256 {
					hold(slices.Concat(state[:at], []byte{byte(b)}, state[at+1:]))
				}
			}
			for at := range len(state) + 1 {
				for _, b := range []byte{0, 1, 2, 127, 128, 255} {
					hold(slices.Insert(slices.Clone(state), at, b))
				}
			}
		}
	}
	if met[true] < 1000 || met[false] < 1000 {
		t.Error("states taken and refused:", met)
	}
}

// Bytes that are nearly those of a run of the plan.
func TestOtherRuns(t *testing.T) {
	p := must(Parse("deep f4"))
	x := []complex128{1, 2, 3, 4}
	state := stateOf(p.Order(), api.Deep, x, true, 1)
	if !holdResume(t, p, state) {
		t.Fatal("the plan's own run isn't taken")
	}
	engine := state[1+len(textBytes("deep f4")):]
	with := func(parts ...[]byte) []byte { return slices.Concat(append(parts, engine)...) }
	for name, b := range map[string][]byte{
		"nothing":                     nil,
		"inverse 2":                   with([]byte{2}, textBytes("deep f4")),
		"inverse in two bytes":        with([]byte{0x81, 0}, textBytes("deep f4")),
		"inverse above 64 bits":       with(slices.Repeat([]byte{0xff}, 10), textBytes("deep f4")),
		"the other way's text":        with([]byte{1}, textBytes("wide f4")), // of the same program
		"another order's text":        with([]byte{1}, textBytes("deep d4")),
		"the order's text alone":      with([]byte{1}, textBytes("f4")),
		"the text and a blank":        with([]byte{1}, textBytes("deep f4 ")),
		"no text":                     with([]byte{1}),
		"the empty text":              with([]byte{1}, textBytes("")),
		"a text in more bytes":        with([]byte{1, 0x87, 0}, []byte("deep f4")),
		"a text of very many bytes":   with([]byte{1}, slices.Repeat([]byte{0xff}, 9), []byte{1}),
		"the machine's bytes as text": slices.Concat([]byte{1}, textBytes("deep f4"), textBytes(string(engine))),
		"the machine's bytes alone":   engine,
		"the plan's bytes":            p.Encode(),
		"no machine":                  slices.Concat([]byte{1}, textBytes("deep f4")),
		"a byte more":                 append(slices.Clone(state), 0),
		"twice":                       slices.Concat(state, state),
	} {
		if holdResume(t, p, b) {
			t.Errorf("%s: taken", name)
		}
	}
	for _, s := range []string{"wide f4", "deep d4", "deep (f2 x f2)", "deep f2", "deep b3(f5)"} {
		q := must(Parse(s))
		if holdResume(t, q, state) {
			t.Errorf("the run of another plan is taken by %s", s)
		}
		if holdResume(t, p, must(q.Begin(make([]complex128, q.Length()), false)).Save()) {
			t.Errorf("the run of %s is taken", s)
		}
	}
}

// By the words of layer 19 a machine in any state is taken, whatever its cells hold.
func TestAnyCells(t *testing.T) {
	r := rand.New(rand.NewSource(44))
	for _, s := range someTexts {
		p := must(Parse(s))
		acts := must(check.Acts(p.Program()))
		head := textBytes(string(must(steps.Encode(p.Program()))))
		for range 20 {
			w := pack.New()
			w.Uint(uint64(r.Intn(acts + 1)))
			w.List(anyList(r, p.Program().Cells, r.Intn(2) == 0))
			state := slices.Concat([]byte{byte(r.Intn(2))}, textBytes(s), head, w.Out())
			if !holdResume(t, p, state) {
				t.Errorf("a state of %s isn't taken", s)
			}
			more := pack.New()
			more.Uint(uint64(acts + 1 + r.Intn(3)))
			more.List(make([]complex128, p.Program().Cells))
			if holdResume(t, p, slices.Concat([]byte{0}, textBytes(s), head, more.Out())) {
				t.Errorf("more acts than there are of %s are taken", s)
			}
		}
	}
}

// The same plan's runs in two directions are told apart by their first byte alone.
func TestTurnedRound(t *testing.T) {
	p := planOf(t, order.Times(order.Fly(2), order.Direct(3)), api.Deep)
	x := anyList(rand.New(rand.NewSource(45)), 6, false)
	state := must(p.Begin(x, false)).Save()
	state[0] = 1
	run := must(p.Resume(state))
	must(run.Do(1000))
	want := each(must(p.Forward(x)), func(v complex128) complex128 { return new(oracle).over(conj(v), 6) })
	if y, err := run.Result(); err != nil || !alike(y, want) {
		t.Errorf("the result is %v, %v, want %v", y, err, want)
	}
}
