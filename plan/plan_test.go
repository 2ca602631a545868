package plan

import (
	"math"
	"math/rand"
	"slices"
	"strings"
	"testing"

	"timbre/api"
	"timbre/check"
	"timbre/order"
	"timbre/planner"
)

// refused asks that a call answered an error and nothing else.
func refused(t *testing.T, what string, p *Plan, err, want error) {
	t.Helper()
	if p != nil || err != want {
		t.Errorf("%s: %v, %v, want %v", what, p, err, want)
	}
}

func TestExamples(t *testing.T) {
	p := planOf(t, order.Fly(4), api.Deep)
	if p.Length() != 4 || p.Text() != "deep f4" {
		t.Errorf("length %d, text %q", p.Length(), p.Text())
	}
	x := []complex128{1, 2, 3, 4}
	y, err := p.Forward(x)
	if err != nil || !slices.Equal(y, []complex128{10, complex(-2, 2), -2, complex(-2, -2)}) {
		t.Errorf("Forward is %v, %v", y, err)
	}
	if back, err := p.Inverse(y); err != nil || !slices.Equal(back, x) {
		t.Errorf("Inverse is %v, %v", back, err)
	}
	if y, err := p.Forward(x[:3]); len(y) != 0 || err != api.ErrLength {
		t.Errorf("Forward of three elements is %v, %v", y, err)
	}
	for text, length := range map[string]int{"deep f4": 4, "wide (f2 x d3)": 6} {
		if p, err := Parse(text); err != nil || p.Length() != length || p.Text() != text {
			t.Errorf("%q: %v", text, err)
		}
	}
	for _, text := range []string{"f4", "deep  f4", "deep f6"} {
		p, err := Parse(text)
		refused(t, text, p, err, api.ErrText)
	}
}

// The example of a run in pieces.
func TestExampleOfARun(t *testing.T) {
	p := planOf(t, order.Fly(4), api.Deep)
	x := []complex128{1, 2, 3, 4}
	r, err := p.Begin(x, false)
	if err != nil {
		t.Fatal(err)
	}
	acts, err := check.Acts(p.Program())
	if err != nil || r.Left() != acts {
		t.Errorf("Left is %d, want %d, %v", r.Left(), acts, err)
	}
	if n, err := r.Do(0); n != 0 || err != nil {
		t.Errorf("Do(0) is %d, %v", n, err)
	}
	if n, err := r.Do(-1); n != 0 || err != api.ErrRange {
		t.Errorf("Do(-1) is %d, %v", n, err)
	}
	if y, err := r.Result(); len(y) != 0 || err != api.ErrState {
		t.Errorf("Result is %v, %v", y, err)
	}
	if n, err := r.Do(1000); n != acts || err != nil {
		t.Errorf("Do(1000) is %d, %v", n, err)
	}
	if n, err := r.Do(1); n != 0 || err != api.ErrDone {
		t.Errorf("Do(1) is %d, %v", n, err)
	}
	want := must(p.Forward(x))
	if y, err := r.Result(); err != nil || !alike(y, want) {
		t.Errorf("Result is %v, %v", y, err)
	}
	r = must(p.Begin(x, false))
	must(r.Do(1))
	r = must(p.Resume(r.Save()))
	must(r.Do(1000))
	if y, err := r.Result(); err != nil || !alike(y, want) {
		t.Errorf("Result of a run that was saved is %v, %v", y, err)
	}
}

// Examples 1 and 8 of the whole.
func TestExamplesOfTheWhole(t *testing.T) {
	for _, text := range []string{"deep f4", "deep d4", "wide (f2 x f2)", "wide (d2 x f2)"} {
		p := must(Parse(text))
		y := must(p.Forward([]complex128{1, 2, 3, 4}))
		if !slices.Equal(y, []complex128{10, complex(-2, 2), -2, complex(-2, -2)}) || !slices.Equal(must(p.Inverse(y)), []complex128{1, 2, 3, 4}) {
			t.Errorf("%s: %v, and back %v", text, y, must(p.Inverse(y)))
		}
	}
	if p := must(Parse("deep b11((f4 x (f4 x f2)))")); p.Length() != 11 || lengthOf(p.Order().Kids[0]) != 32 {
		t.Error("b11 of 32:", p.Text())
	}
	blues := func(n int) bool {
		return slices.ContainsFunc(must(New(n)).Program().Steps, func(s api.Step) bool { return s.Op == api.OpChirp })
	}
	if !blues(97) || blues(96) {
		t.Error("Bluestein's way of 97 and of 96:", blues(97), blues(96))
	}
}

// somePolicies are good ones.
var somePolicies = []api.Policy{
	{Direct: 16, Flies: []int{2, 3, 4, 5}, Prime: 13},
	{Direct: 2, Flies: nil, Prime: 2},
	{Direct: 2, Flies: []int{3}, Prime: 2},
	{Direct: 64, Flies: []int{}, Prime: 61},
	{Direct: 7, Flies: []int{4, 5}, Prime: 5},
}

// wrongPolicies are those that the planner refuses.
var wrongPolicies = []api.Policy{
	{},
	{Direct: 1, Prime: 1},
	{Direct: 65, Prime: 2},
	{Direct: 5, Prime: 7},
	{Direct: 5, Flies: []int{2, 6}, Prime: 5},
	{Direct: 5, Flies: []int{3, 2}, Prime: 5},
	{Direct: math.MinInt, Prime: math.MaxInt},
}

var (
	wrongWays    = []int{-1, 2, 3, 256, 1 << 32, math.MaxInt, math.MinInt}
	wrongLengths = []int{0, -1, 4097, 8192, 1 << 32, 1<<32 + 4, math.MaxInt, math.MinInt}
)

// New and With are what the planner chooses and layer 17 compiles.
func TestByLengths(t *testing.T) {
	for n := 1; n <= 130; n++ {
		for i, policy := range somePolicies {
			for _, way := range ways {
				p, err := With(n, policy, way)
				if err != nil {
					t.Fatalf("With(%d, %v, %d): %v", n, policy, way, err)
				}
				holdPlan(t, p, must(planner.Choose(n, policy)), way)
				if q, err := New(n); i == 0 && way == api.Deep && (err != nil || q.Text() != p.Text()) {
					t.Errorf("New(%d): %v", n, err)
				}
			}
		}
	}
	if p, err := With(4093, planner.Usual(), api.Wide); err != nil || p.Way() != api.Wide || p.Length() != 4093 {
		t.Errorf("With(4093) in the wide way: %v", err)
	}
}

// The errors of New and With, the first of several of them.
func TestRefusedLengths(t *testing.T) {
	for _, n := range wrongLengths {
		p, err := New(n)
		refused(t, "New of a wrong length", p, err, api.ErrLength)
	}
	for _, way := range wrongWays {
		for _, n := range append(wrongLengths, 1, 12, 4093) {
			for _, policy := range append(wrongPolicies, somePolicies...) {
				p, err := With(n, policy, way)
				refused(t, "With in no way", p, err, api.ErrMode)
			}
		}
	}
	for _, way := range ways {
		for _, policy := range append(wrongPolicies, somePolicies...) {
			for _, n := range wrongLengths {
				p, err := With(n, policy, way)
				refused(t, "With of a wrong length", p, err, api.ErrLength)
			}
		}
		for _, policy := range wrongPolicies {
			for _, n := range []int{1, 12, 4096} {
				p, err := With(n, policy, way)
				refused(t, "With by a wrong policy", p, err, api.ErrRange)
			}
		}
		p, err := With(4093, somePolicies[1], way) // thrice 8192 by twos alone are too many steps
		refused(t, "With beyond the limits", p, err, api.ErrProgram)
	}
}

// wrongOrders aren't good.
func wrongOrders() []api.Order {
	deep := order.Fly(2)
	for range 16 {
		deep = order.Blue(2, order.Times(deep, order.Fly(2)))
	}
	endless := api.Order{Kind: api.OrderBlue, N: 2, Kids: make([]api.Order, 1)}
	endless.Kids[0] = endless
	return []api.Order{
		{}, order.Fly(6), order.Fly(1), order.Direct(0), order.Direct(65), order.Blue(1, order.Fly(2)), order.Blue(11, order.Fly(5)),
		order.Times(order.Direct(1), order.Fly(2)), {Kind: 5, N: 2}, {Kind: api.OrderTimes, Kids: []api.Order{order.Fly(2)}},
		{Kind: api.OrderTimes, N: 1, Kids: []api.Order{order.Fly(2), order.Fly(2)}}, {Kind: api.OrderDirect, N: 2, Kids: []api.Order{order.Fly(2)}},
		deep, endless,
	}
}

// beyond are good orders that layer 17 refuses, in both ways.
var beyond = []string{
	"(b2(f5) x b10(b40(((b4(b8((f5 x f3))) x f4) x f5))))", // MaxSteps and some more
	"(b3((b2(b3(f5)) x f3)) x b113((f3 x ((f3 x f5) x f5))))",
	"b4093(" + strings.Repeat("(", 12) + "d2" + strings.Repeat(" x d2)", 12) + ")",
}

func TestRefusedOrders(t *testing.T) {
	for _, way := range wrongWays {
		for _, o := range append(wrongOrders(), order.Fly(4), parsed(beyond[0])) {
			p, err := Of(o, way)
			refused(t, "Of in no way", p, err, api.ErrMode)
		}
	}
	for _, way := range ways {
		for _, o := range wrongOrders() {
			p, err := Of(o, way)
			refused(t, "Of a wrong order", p, err, api.ErrOrder)
		}
		for _, s := range beyond {
			p, err := Of(parsed(s), way)
			refused(t, s, p, err, api.ErrProgram)
			p, err = Parse(textOf(parsed(s), way))
			refused(t, s, p, err, api.ErrProgram)
		}
	}
	wide := parsed("b4353(((d22 x d16) x d45))") // too many cells in the wide way alone
	p, err := Of(wide, api.Wide)
	refused(t, "Of beyond MaxCells", p, err, api.ErrProgram)
	if p, err = Of(wide, api.Deep); err != nil || p.Length() != 4353 {
		t.Errorf("an order that is longer than MaxLen: %v", err)
	}
}

func TestRefusedLists(t *testing.T) {
	for _, s := range []string{"d1", "f4", "(f2 x d3)", "b5((f3 x f3))"} {
		for _, way := range ways {
			p := planOf(t, parsed(s), way)
			for n := range 40 {
				if n == p.Length() {
					continue
				}
				x := make([]complex128, n)
				if y, err := p.Forward(x); len(y) != 0 || err != api.ErrLength {
					t.Errorf("%s: Forward of %d elements is %v, %v", p.Text(), n, y, err)
				}
				if y, err := p.Inverse(x); len(y) != 0 || err != api.ErrLength {
					t.Errorf("%s: Inverse of %d elements is %v, %v", p.Text(), n, y, err)
				}
				for _, inverse := range []bool{false, true} {
					if r, err := p.Begin(x, inverse); r != nil || err != api.ErrLength {
						t.Errorf("%s: Begin of %d elements is %v, %v", p.Text(), n, r, err)
					}
				}
			}
			if _, err := p.Forward(nil); err != api.ErrLength {
				t.Errorf("%s: Forward of nil: %v", p.Text(), err)
			}
		}
	}
}

// spare is the whole room of a list.
func spare[T any](list []T) []T { return list[:cap(list)] }

// What is handed in isn't changed and isn't kept: orders, policies, texts' bytes, lists.
func TestArguments(t *testing.T) {
	kids := append(make([]api.Order, 0, 4), order.Fly(2), order.Times(order.Fly(3), order.Direct(2)))
	o := api.Order{Kind: api.OrderTimes, Kids: kids}
	p := must(Of(o, api.Wide))
	if !sameOrders(o, parsed("(f2 x (f3 x d2))")) || spare(kids)[2].Kind != 0 {
		t.Error("Of changes the order")
	}
	kids[1].Kids[0].N = 5
	kids[0] = order.Direct(60)
	holdPlan(t, p, parsed("(f2 x (f3 x d2))"), api.Wide)

	policy := api.Policy{Direct: 4, Flies: append(make([]int, 0, 4), 2, 3), Prime: 3}
	p = must(With(12, policy, api.Deep))
	want := must(planner.Choose(12, policy))
	if !slices.Equal(spare(policy.Flies), []int{2, 3, 0, 0}) {
		t.Error("With changes the policy")
	}
	clear(policy.Flies)
	holdPlan(t, p, want, api.Deep)

	b := p.Encode()
	before := append(slices.Clone(b), 7, 7, 7)
	b = slices.Clone(before)[:len(b)]
	p = must(Decode(b))
	if !slices.Equal(b[:len(before)], before) {
		t.Error("Decode changes the bytes")
	}
	clear(b)
	holdPlan(t, p, want, api.Deep)

	whole := anyList(rand.New(rand.NewSource(36)), 15, false)
	x, kept := whole[:12], slices.Clone(whole)
	must(p.Forward(x))
	must(p.Inverse(x))
	for _, inverse := range []bool{false, true} {
		r := must(p.Begin(x, inverse))
		must(r.Do(r.Left()))
		must(r.Result())
		r = must(p.Begin(x, inverse))
		if !alike(whole, kept) {
			t.Error("a list is changed")
		}
		clear(whole)
		must(r.Do(r.Left()))
		want := new(oracle).forward(p.Order(), kept[:12])
		if inverse {
			want = new(oracle).inverse(p.Order(), kept[:12])
		}
		if !alike(must(r.Result()), want) {
			t.Error("a run keeps the list that it was given")
		}
		copy(whole, kept)
	}
}

// Answers are new memory: whatever is written into them isn't seen.
func TestAnswers(t *testing.T) {
	for _, s := range []string{"f4", "(f2 x (f3 x d2))", "b5((f3 x f3))", "(b2(d3) x b2(d3))"} {
		for _, way := range ways {
			o := parsed(s)
			p := planOf(t, o, way)
			spoil(p.Order())
			clear(spare(p.Program().Steps))
			clear(spare(p.Encode()))
			holdPlan(t, p, o, way)
			x := anyList(rand.New(rand.NewSource(37)), p.Length(), false)
			there, back := must(p.Forward(x)), must(p.Inverse(x))
			kept := [2][]complex128{slices.Clone(there), slices.Clone(back)}
			clear(spare(must(p.Forward(x))))
			clear(spare(must(p.Inverse(x))))
			if !alike(there, kept[0]) || !alike(back, kept[1]) || !alike(must(p.Forward(x)), kept[0]) || !alike(must(p.Inverse(x)), kept[1]) {
				t.Errorf("%s: the answers share memory", p.Text())
			}
			clear(spare(there))
			holdTransforms(t, p, o, x)
		}
	}
	two := parsed("(f2 x d2)")
	shared := api.Order{Kind: api.OrderTimes, Kids: []api.Order{two, two}} // both have one list of Kids
	for _, p := range []*Plan{must(Of(shared, api.Deep)), must(Parse("deep ((f2 x d2) x (f2 x d2))"))} {
		o := p.Order()
		spoil(o.Kids[0])
		if !sameOrders(o.Kids[1], two) {
			t.Error("two lists of an order share memory")
		}
		holdPlan(t, p, shared, api.Deep)
	}
	empty := api.Order{Kind: api.OrderFly, N: 3, Kids: []api.Order{}}
	holdPlan(t, must(Of(empty, api.Deep)), order.Fly(3), api.Deep)
}

// spoil writes into all lists of an order.
func spoil(o api.Order) {
	for i := range o.Kids {
		spoil(o.Kids[i])
	}
	clear(spare(o.Kids))
}
