package order

import (
	"iter"
	"slices"

	"timbre/api"
)

const mostCopied = 1 << 16 // parts of a tree that is copied part by part

// list is where a list of Kids stands. One list may stand in many places of a tree, so that a few of them have more parts than could ever be gone through: a tree of any size is gone through list by list, each of them once.
type list struct {
	first *api.Order
	count int
}

// listOf is where these Kids stand; there must be some.
func listOf(kids []api.Order) list { return list{&kids[0], len(kids)} }

// Depth is how deep a tree is.
func Depth(o api.Order) int {
	return 1 + levels(o.Kids, map[list]int{})
}

// levels is how many levels these Kids and those below them have.
func levels(kids []api.Order, known map[list]int) int {
	if len(kids) == 0 {
		return 0
	}
	at := listOf(kids)
	if n, ok := known[at]; ok {
		return n
	}
	known[at] = 0 // where a list stands within itself there is no depth to tell, but an end
	deepest := 0
	for _, kid := range kids {
		deepest = max(deepest, levels(kid.Kids, known))
	}
	known[at] = 1 + deepest
	return 1 + deepest
}

// Same tells whether two orders are alike.
func Same(a, b api.Order) bool {
	return sameHead(a, b) && sameKids(a.Kids, b.Kids, map[[2]list]struct{}{})
}

func sameHead(a, b api.Order) bool { return a.Kind == b.Kind && a.N == b.N }

// sameKids needs no second look at two lists that it has met: had they differed, it would have ended there.
func sameKids(a, b []api.Order, met map[[2]list]struct{}) bool {
	if len(a) != len(b) {
		return false
	}
	if len(a) == 0 {
		return true
	}
	both := [2]list{listOf(a), listOf(b)}
	if _, ok := met[both]; ok {
		return true
	}
	met[both] = struct{}{}
	for i := range a {
		if !sameHead(a[i], b[i]) || !sameKids(a[i].Kids, b[i].Kids, met) {
			return false
		}
	}
	return true
}

// Leaves goes over the leaves, from the left.
func Leaves(o api.Order) iter.Seq[api.Order] {
	own := copiedByLists(o) // what the caller writes into the tree later on is not told
	return func(yield func(api.Order) bool) {
		tellLeaves(own, yield)
	}
}

// tellLeaves tells whether it may go on behind these leaves.
func tellLeaves(o api.Order, yield func(api.Order) bool) bool {
	if len(o.Kids) == 0 {
		return yield(o)
	}
	for _, kid := range o.Kids {
		if !tellLeaves(kid, yield) {
			return false
		}
	}
	return true
}

// copied is the order in new memory, no two parts of it in the same; of a tree with too many parts for that, parts that shared a list share its copy.
func copied(o api.Order) api.Order {
	if partsLeft(o, mostCopied) < 0 {
		return copiedByLists(o)
	}
	return copiedByParts(o)
}

// partsLeft is what the parts of a tree leave of so many; below 0, if they are more, of which it meets but one.
func partsLeft(o api.Order, most int) int {
	left := most - 1
	for i := 0; i < len(o.Kids) && left >= 0; i++ {
		left = partsLeft(o.Kids[i], left)
	}
	return left
}

func copiedByParts(o api.Order) api.Order {
	var kids []api.Order
	for _, kid := range o.Kids {
		kids = append(kids, copiedByParts(kid))
	}
	o.Kids = kids
	return o
}

func copiedByLists(o api.Order) api.Order {
	c := copier{made: map[list][]api.Order{}}
	o.Kids = c.copyOf(o.Kids)
	for len(c.todo) > 0 {
		last := len(c.todo) - 1
		kids := c.todo[last]
		c.todo = c.todo[:last]
		for i := range kids {
			kids[i].Kids = c.copyOf(kids[i].Kids)
		}
	}
	return o
}

// copier keeps the copies of lists: all that it has made, and those in which the parts still have the lists that were given.
type copier struct {
	made map[list][]api.Order
	todo [][]api.Order
}

func (c *copier) copyOf(kids []api.Order) []api.Order {
	if len(kids) == 0 {
		return nil
	}
	at := listOf(kids)
	if out, ok := c.made[at]; ok {
		return out
	}
	out := slices.Clone(kids)
	c.made[at] = out
	c.todo = append(c.todo, out)
	return out
}
