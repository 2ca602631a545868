package compile

import (
	"slices"
	"testing"

	"timbre/api"
	"timbre/order"
	"timbre/planner"
	"timbre/steps"
)

// The orders at the limits were looked for by another program, which counts by the chapter's words.

func TestMostSteps(t *testing.T) {
	// Just MaxSteps of them, in both ways, and one more, and two.
	most := parsed(t, "b8((b2(f4) x (b3(b7(b13((f5 x f5)))) x b15((b2(f5) x (f3 x f5))))))")
	deep, wide := holds(t, most)
	if len(deep.Steps) != 65536 || len(wide.Steps) != 65536 {
		t.Errorf("the order has %d and %d steps", len(deep.Steps), len(wide.Steps))
	}
	for _, s := range []string{
		"(b2(f5) x b10(b40(((b4(b8((f5 x f3))) x f4) x f5))))",
		"(b3((b2(b3(f5)) x f3)) x b113((f3 x ((f3 x f5) x f5))))",
	} {
		o := parsed(t, s)
		for way, p := range []api.Program{told(o, api.Deep), told(o, api.Wide)} {
			if more := len(p.Steps) - 65536; more < 1 || more > 2 || p.Cells > 262144 {
				t.Errorf("way %d of %s has %d steps and %d cells", way, s, len(p.Steps), p.Cells)
			}
			refuses(t, o, way, api.ErrProgram)
		}
	}
}

// By the deep way no order meets MaxCells ahead of MaxSteps; by the wide way each order has an even number of cells.
func TestMostCells(t *testing.T) {
	for s, cells := range map[string]int{
		"b4351(((d22 x d16) x d45))": 262142,
		"b4352(((d22 x d16) x d45))": 262144,
	} {
		deep, wide := holds(t, parsed(t, s))
		if wide.Cells != cells || deep.Cells > 100000 {
			t.Errorf("%s has %d and %d cells", s, deep.Cells, wide.Cells)
		}
	}
	for _, s := range []string{"b4353(((d22 x d16) x d45))", "b4354(((d22 x d16) x d45))", "b7920(((d22 x d16) x d45))"} {
		o := parsed(t, s)
		compiled(t, o, api.Deep)
		p := told(o, api.Wide)
		if p.Cells <= 262144 || len(p.Steps) > 65536 {
			t.Errorf("%s has %d cells and %d steps", s, p.Cells, len(p.Steps))
		}
		refuses(t, o, api.Wide, api.ErrProgram)
	}
	greatest := parsed(t, "b8192((f2 x b8192((f2 x b8192((f4 x (f4 x (f4 x (f4 x d64)))))))))")
	if p := compiled(t, greatest, api.Deep); p.Cells != 212992 || len(p.Steps) != 64840 {
		t.Errorf("%d cells and %d steps", p.Cells, len(p.Steps))
	}
	refuses(t, greatest, api.Wide, api.ErrProgram)
}

// No order meets MaxActs ahead of MaxSteps, so that no call shows this bound; it is seen in what a part needs.
func TestMostActs(t *testing.T) {
	for _, o := range someOrders(t) {
		for _, way := range ways {
			acts := 0
			for _, s := range told(o, way).Steps {
				acts += steps.Acts(s)
			}
			if got := partOf(o, way).needs.acts; got != acts {
				t.Errorf("way %d of %v has %d acts, want %d", way, o, got, acts)
			}
		}
	}
	for acts, want := range map[int]bool{1: true, 67108863: true, 67108864: true, 67108865: false, farBeyond: false} {
		if p := (&part{length: 1, needs: needs{steps: 1, acts: acts}}); p.fits() != want {
			t.Errorf("%d acts fit: %v", acts, !want)
		}
	}
}

// Needs that would wrap round in an int are above the limits too.
func TestNeedsBeyondAllInts(t *testing.T) {
	for last := 32; last <= 64; last++ {
		long := order.Times(order.Direct(64), order.Times(order.Direct(last), order.Fly(2)))
		o := order.Times(order.Direct(2), order.Fly(2))
		for order.Depth(o) < 15 {
			o = order.Times(long, order.Blue(2, o)) // some thousand instances of the second order, each with three of the last o
			if order.Depth(o) == 4 {
				continue
			}
			for _, way := range ways {
				n := partOf(o, way).needs
				if n.steps <= api.MaxSteps || n.acts <= api.MaxActs || n.cells < 128*last || way == api.Wide && n.cells <= api.MaxCells {
					t.Errorf("way %d, %d levels: %+v", way, order.Depth(o), n)
				}
				refuses(t, o, way, api.ErrProgram)
			}
		}
		if order.Check(o) != nil {
			t.Error("not good:", order.Depth(o), "levels")
		}
	}
}

// Programs far beyond every limit are refused soon.
func TestProgramsFarBeyondTheLimits(t *testing.T) {
	blues := order.Direct(3)
	for range 7 {
		blues = order.Blue(2, order.Times(order.Direct(64), blues))
	}
	left := order.Fly(2)
	for range 13 {
		left = order.Times(left, order.Fly(2))
	}
	inner := order.Times(order.Direct(64), order.Times(order.Fly(4), order.Direct(64)))
	wideFirst := inner
	for range 6 {
		wideFirst = order.Times(order.Blue(4096, wideFirst), order.Fly(4))
	}
	wideSecond := inner
	for range 6 {
		wideSecond = order.Times(order.Direct(64), order.Blue(256, wideSecond))
	}
	for _, o := range []api.Order{
		blues,
		left,
		wideFirst,
		wideSecond,
		order.Blue(8192, order.Times(order.Blue(4, inner), order.Blue(4096, inner))),
		order.Times(order.Blue(8192, inner), order.Blue(2, inner)),
		order.Times(order.Blue(2, inner), order.Blue(8192, inner)),
	} {
		if order.Check(o) != nil {
			t.Fatal("not good:", o)
		}
		for _, way := range ways {
			refuses(t, o, way, api.ErrProgram)
		}
	}
}

// productOf is the product of these, as few levels deep as can be.
func productOf(list []api.Order) api.Order {
	if len(list) == 1 {
		return list[0]
	}
	half := len(list) / 2
	return order.Times(productOf(list[:half]), productOf(list[half:]))
}

// Orders of as many levels and nearly as many parts as a good one may have.
func TestManyParts(t *testing.T) {
	two := order.Fly(2)
	for _, count := range []int{14, 14, 10} {
		two = order.Blue(2, productOf(slices.Repeat([]api.Order{two}, count)))
	}
	if order.Check(two) != nil || order.Depth(two) != 16 {
		t.Fatal("not the order that is meant:", order.Depth(two), "levels")
	}
	for _, way := range ways {
		refuses(t, two, way, api.ErrProgram)
	}
}

// P14.5, P8: every length has a program by its usual choice, in both ways.
func TestEveryLengthHasPrograms(t *testing.T) {
	for n := 1; n <= api.MaxLen; n++ {
		o, err := planner.Choose(n, planner.Usual())
		if err != nil {
			t.Fatal(n, err)
		}
		for _, way := range ways {
			p := compiled(t, o, way)
			if p.Length != n || p.In != 0 || p.Out != n || len(p.Steps) == 0 {
				t.Fatalf("way %d of %d: %d, in %d, out %d, %d steps", way, n, p.Length, p.In, p.Out, len(p.Steps))
			}
		}
	}
}
