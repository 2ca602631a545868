package order

import (
	"math/rand"
	"slices"
	"sync"
	"testing"

	"timbre/api"
)

// anyTree is a tree of any kinds, numbers and Kids.
func anyTree(r *rand.Rand, levels int) api.Order {
	o := api.Order{Kind: r.Intn(8) - 1, N: r.Intn(9) - 2}
	if levels > 1 {
		for range r.Intn(4) {
			o.Kids = append(o.Kids, anyTree(r, levels-1-r.Intn(2)))
		}
	}
	return o
}

// doubled is o in 2^n places.
func doubled(o api.Order, n int) api.Order {
	for range n {
		o = times(o, o)
	}
	return o
}

func TestDepthOfAnyTrees(t *testing.T) {
	r := rand.New(rand.NewSource(5))
	for range 5000 {
		o := anyTree(r, 7)
		if got, want := Depth(o), depth(o); got != want {
			t.Fatalf("Depth of %v is %d, want %d", o, got, want)
		}
	}
	for _, c := range []struct {
		o    api.Order
		want int
	}{
		{api.Order{}, 1},
		{Direct(7), 1},
		{api.Order{Kind: api.OrderDirect, N: 7, Kids: []api.Order{}}, 1},
		{api.Order{Kind: api.OrderDirect, N: 7, Kids: []api.Order{{}}}, 2},
		{Times(Fly(4), Times(Direct(7), Fly(2))), 3},
		{Times(Times(Direct(7), Fly(2)), Fly(4)), 3},
		{api.Order{Kind: 9, Kids: []api.Order{{}, Blue(1, Blue(0, Fly(9))), {}}}, 4},
	} {
		if got := Depth(c.o); got != c.want {
			t.Errorf("Depth of %v is %d, want %d", c.o, got, c.want)
		}
	}
}

func TestDepthOfPiecesOfOneList(t *testing.T) {
	// Lists that begin at one place, but not of one length, are two.
	list := []api.Order{Fly(2), Blue(2, Blue(3, Direct(9)))}
	for _, kids := range [][]api.Order{
		{{Kids: list[:1]}, {Kids: list}},
		{{Kids: list}, {Kids: list[:1]}},
		{{Kids: list[:1]}, {Kids: list[:0]}, {Kids: list[1:]}},
	} {
		o := api.Order{Kids: kids}
		if got := Depth(o); got != 5 {
			t.Errorf("Depth of %v is %d", o, got)
		}
		if got := slices.Collect(Leaves(o)); !slices.EqualFunc(got, leaves(o), alike) {
			t.Errorf("Leaves of %v: %v", o, got)
		}
	}
	a := api.Order{Kids: []api.Order{{Kids: list[:1]}, {Kids: list}}}
	b := api.Order{Kids: []api.Order{{Kids: list[:1]}, {Kids: list[:1]}}}
	if Same(a, b) || Same(b, a) {
		t.Error("pieces of one list are taken for one another")
	}
}

func TestSame(t *testing.T) {
	r := rand.New(rand.NewSource(6))
	trees := []api.Order{{}, {Kind: 1}, {N: 1}, {Kids: []api.Order{{}}}, {Kids: []api.Order{{}, {}}}, {Kids: []api.Order{{Kids: []api.Order{{}}}}}}
	for range 300 {
		trees = append(trees, anyTree(r, 3), anyTree(r, 2))
	}
	for _, a := range trees {
		for _, b := range trees {
			if got, want := Same(a, b), alike(a, b); got != want {
				t.Fatalf("Same of %v and %v is %v", a, b, got)
			}
		}
	}
	for range 5000 {
		a := anyTree(r, 7)
		b := Blue(0, a).Kids[0]
		if !Same(a, b) || !Same(b, a) {
			t.Fatalf("%v isn't the same as its copy", a)
		}
		p := part(r, &b)
		switch r.Intn(4) {
		case 0:
			p.Kind++
		case 1:
			p.N--
		case 2:
			p.Kids = append(p.Kids, api.Order{})
		case 3:
			*p = Blue(p.N, *p)
		}
		if Same(a, b) || Same(b, a) {
			t.Fatalf("%v is the same as %v", a, b)
		}
	}
	none := api.Order{Kind: 1, N: 2, Kids: []api.Order{}}
	if !Same(none, Direct(2)) || !Same(Direct(2), none) || Same(Direct(2), Fly(2)) || Same(Times(Fly(2), Fly(3)), Times(Fly(3), Fly(2))) {
		t.Error("Same of leaves, or of a product turned round")
	}
}

func TestSameOfOneListInTwoPlaces(t *testing.T) {
	// Each pair of lists has to be met, not each list.
	two, three := []api.Order{Fly(2)}, []api.Order{Fly(3)}
	tree := func(lists ...[]api.Order) api.Order {
		var o api.Order
		for _, kids := range lists {
			o.Kids = append(o.Kids, api.Order{Kids: kids})
		}
		return o
	}
	for _, c := range []struct {
		a, b api.Order
		want bool
	}{
		{tree(two, two), tree(two, two), true},
		{tree(two, two), tree(two, three), false},
		{tree(two, three), tree(two, two), false},
		{tree(two, three, two), tree(two, three, three), false},
		{tree(two, three, two), tree(two, []api.Order{Fly(3)}, []api.Order{Fly(2)}), true},
		{tree(two, three), tree(three, two), false},
	} {
		if Same(c.a, c.b) != c.want || Same(c.b, c.a) != c.want {
			t.Errorf("Same of %v and %v isn't %v", c.a, c.b, c.want)
		}
	}
}

func TestLeaves(t *testing.T) {
	r := rand.New(rand.NewSource(7))
	for range 3000 {
		o := anyTree(r, 7)
		want := leaves(o)
		seq := Leaves(o)
		for range 2 {
			if got := slices.Collect(seq); !slices.EqualFunc(got, want, alike) {
				t.Fatalf("Leaves of %v: %v", o, got)
			}
		}
	}
	o := Times(Fly(4), Times(Direct(7), Fly(2)))
	if got := slices.Collect(Leaves(o)); !slices.EqualFunc(got, []api.Order{Fly(4), Direct(7), Fly(2)}, alike) {
		t.Error("Leaves of the example:", got)
	}
	if got := slices.Collect(Leaves(api.Order{})); len(got) != 1 || !alike(got[0], api.Order{}) {
		t.Error("Leaves of the empty order:", got)
	}
	bad := api.Order{Kind: api.OrderDirect, N: -3, Kids: []api.Order{{Kind: api.OrderTimes}, {Kind: api.OrderBlue, N: 1, Kids: []api.Order{}}}}
	if got := slices.Collect(Leaves(bad)); !slices.EqualFunc(got, []api.Order{{Kind: api.OrderTimes}, {Kind: api.OrderBlue, N: 1}}, alike) {
		t.Error("Leaves of a tree that isn't good:", got)
	}
}

func TestLeavesMayBeStoppedAndGoneOverAgain(t *testing.T) {
	o := Times(Times(Fly(2), Blue(3, Times(Direct(5), Fly(3)))), Times(Fly(4), Fly(5)))
	seq, want := Leaves(o), leaves(o)
	for stop := 1; stop <= len(want); stop++ {
		var got []api.Order
		for leaf := range seq {
			if got = append(got, leaf); len(got) == stop {
				break
			}
		}
		if !slices.EqualFunc(got, want[:stop], alike) {
			t.Errorf("stopped behind %d: %v", stop, got)
		}
	}
	for outer := range seq {
		if got := slices.Collect(seq); !slices.EqualFunc(got, want, alike) {
			t.Errorf("gone over within the leaf %v: %v", outer, got)
		}
	}
	var group sync.WaitGroup
	for range 8 {
		group.Go(func() {
			if got := slices.Collect(seq); !slices.EqualFunc(got, want, alike) {
				t.Error("a goroutine meets other leaves")
			}
		})
	}
	group.Wait()
}

func TestLeavesTellWhatWasThere(t *testing.T) {
	o := times(times(Fly(2), blue(3, times(Direct(5), Fly(3)))), times(Fly(4), Fly(5)))
	want := leaves(o)
	seq := Leaves(o)
	o.Kids[0].Kids[1].Kids[0].Kids[1].N = 9
	o.Kids[1] = Fly(2)
	if got := slices.Collect(seq); !slices.EqualFunc(got, want, alike) {
		t.Error("behind writes into the tree:", got)
	}
	seq = Leaves(o)
	want = leaves(o)
	var got []api.Order
	for leaf := range seq {
		clear(o.Kids[0].Kids)
		o.Kids[1].Kind = 0
		got = append(got, leaf)
	}
	if !slices.EqualFunc(got, want, alike) {
		t.Error("behind writes on the way:", got)
	}
	room := make([]api.Order, 0, 3)
	leaf := api.Order{Kind: 1, N: 2, Kids: room}
	for got := range Leaves(times(leaf, leaf)) {
		if cap(got.Kids) != 0 {
			t.Error("a leaf has spare room of the tree's")
		}
	}
	for got := range Leaves(leaf) {
		if cap(got.Kids) != 0 {
			t.Error("the one leaf has spare room of the tree's")
		}
	}
}

func TestVeryDeepTrees(t *testing.T) {
	const levels = 1 << 16
	chain, other := Fly(2), Fly(3)
	for range levels - 1 {
		chain, other = blue(2, chain), blue(2, other)
	}
	if got := Depth(chain); got != levels {
		t.Error("Depth is", got)
	}
	if Check(chain) != api.ErrOrder || Length(chain) != 0 || !Same(chain, chain) || Same(chain, other) || !Same(chain, Times(chain, chain).Kids[1]) {
		t.Error("a very deep tree")
	}
	if s, err := Text(chain); s != "" || err != api.ErrOrder {
		t.Error("Text:", len(s), err)
	}
	if got := slices.Collect(Leaves(chain)); len(got) != 1 || !alike(got[0], Fly(2)) {
		t.Error("Leaves:", got)
	}
}

func TestVeryWideTrees(t *testing.T) {
	wide := api.Order{Kind: api.OrderTimes, Kids: make([]api.Order, 1<<20)}
	if Depth(wide) != 2 || Check(wide) != api.ErrOrder || Length(wide) != 0 || !Same(wide, Blue(2, wide).Kids[0]) {
		t.Error("a very wide tree")
	}
	count := 0
	for range Leaves(wide) {
		count++
	}
	if count != 1<<20 {
		t.Error("leaves:", count)
	}
	other := Times(wide, wide).Kids[0]
	other.Kids[1<<20-1].N = 1
	if Same(wide, other) || wide.Kids[1<<20-1].N != 0 {
		t.Error("very wide trees that differ at their end")
	}
}

// Few lists, but more parts than could ever be gone through: every call ends.
func TestTreesOfSharedLists(t *testing.T) {
	for _, n := range []int{5, 15, 16, 17, 60, 1000} {
		a, b := doubled(Blue(2, Fly(3)), n), doubled(Blue(2, Fly(3)), n)
		if got := Depth(a); got != n+2 {
			t.Errorf("Depth of %d levels of shared lists is %d", n, got)
		}
		if Check(a) != api.ErrOrder || Length(a) != 0 {
			t.Error("a tree of shared lists is good")
		}
		if s, err := Text(a); s != "" || err != api.ErrOrder {
			t.Error("Text:", s, err)
		}
		if !Same(a, b) || !Same(a, a) || Same(a, doubled(Blue(2, Fly(4)), n)) || Same(a, doubled(Blue(2, Fly(3)), n+1)) {
			t.Error("Same of trees of shared lists")
		}
		seq := Leaves(a)
		a.Kids[0] = Direct(1)
		count := 0
		for leaf := range seq {
			if !alike(leaf, Fly(3)) {
				t.Fatal("a leaf is", leaf)
			}
			if count++; count == 20 {
				break
			}
		}
		if Check(Times(b, b)) != api.ErrOrder || Check(Blue(2, b)) != api.ErrOrder || Depth(Times(b, Fly(2))) != n+3 {
			t.Error("an order made of a tree of shared lists")
		}
	}
}

func TestTreesOfListsSharedUnevenly(t *testing.T) {
	last, next := Fly(2), Fly(3)
	for range 200 {
		last, next = next, times(last, next)
	}
	if got := Depth(next); got != 201 {
		t.Error("Depth is", got)
	}
	if !Same(next, next) || Same(next, last) || Check(next) != api.ErrOrder || Check(Times(next, last)) != api.ErrOrder {
		t.Error("lists shared unevenly")
	}
}

func TestListWithinItself(t *testing.T) {
	list := make([]api.Order, 2)
	list[0], list[1] = api.Order{Kind: api.OrderTimes, Kids: list}, Fly(2)
	o := list[0]
	if Check(o) != api.ErrOrder || Length(o) != 0 || !Same(o, o) || Same(o, Fly(2)) || Depth(o) < 1 {
		t.Error("a list within itself")
	}
	if s, err := Text(o); s != "" || err != api.ErrOrder {
		t.Error("Text:", s, err)
	}
	if Check(Times(o, o)) != api.ErrOrder || Check(Blue(2, o)) != api.ErrOrder || Leaves(o) == nil {
		t.Error("an order made of a list within itself")
	}
}
