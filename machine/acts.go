package machine

import (
	"timbre/api"
	"timbre/chirp"
	"timbre/cplx"
	"timbre/direct"
	"timbre/fly"
	"timbre/roots"
)

// cells are what a program works on.
type cells []complex128

// deed does act number i of a step. The step is good for the cells: they are all there, and no lower layer refuses what it is asked.
type deed func(c cells, s api.Step, i int)

// deeds are what the operations do, at their numbers; at 0 there is none.
func deeds() [api.OpOver + 1]deed {
	return [...]deed{
		api.OpGather:  cells.gather,
		api.OpScatter: cells.scatter,
		api.OpZero:    cells.zero,
		api.OpTwist:   cells.twist,
		api.OpFly:     cells.fly,
		api.OpDirect:  cells.direct,
		api.OpChirp:   cells.chirp,
		api.OpFill:    cells.fill,
		api.OpTimes:   cells.times,
		api.OpConj:    cells.conj,
		api.OpOver:    cells.over,
	}
}

func (c cells) gather(s api.Step, i int) { c[s.Dst+i] = c[s.Src+i*s.Jump] }

func (c cells) scatter(s api.Step, i int) { c[s.Dst+i*s.Jump] = c[s.Src+i] }

func (c cells) zero(s api.Step, i int) { c[s.Dst+i] = 0 }

func (c cells) twist(s api.Step, i int) {
	c[s.Dst+i], _ = roots.Twist(c[s.Dst+i], s.N, s.K*i)
}

func (c cells) fly(s api.Step, i int) {
	list := make([]complex128, s.N)
	for q := range list {
		list[q] = c[s.Dst+i+q*s.Jump]
	}
	flown, _ := fly.Fly(list)
	for q, y := range flown {
		c[s.Dst+i+q*s.Jump] = y
	}
}

func (c cells) direct(s api.Step, i int) {
	c[s.Dst+i], _ = direct.At(c, s.Src, s.Jump, s.N, i)
}

func (c cells) chirp(s api.Step, i int) {
	factor, _ := chirp.At(s.N, i)
	c[s.Dst+i] = cplx.Mul(c[s.Dst+i], factor)
}

// fill asks for the one chirp of the element rather than for the whole list, which would be made anew for every act. The list is the same read from its end: its first N elements are conjugates of chirps, its last N - 1 those again.
func (c cells) fill(s api.Step, i int) {
	j := min(i, s.Count-i)
	if j >= s.N {
		c[s.Dst+i] = 0
		return
	}
	element, _ := chirp.At(s.N, j)
	c[s.Dst+i] = cplx.Conj(element)
}

func (c cells) times(s api.Step, i int) {
	c[s.Dst+i] = cplx.Mul(c[s.Dst+i], c[s.Src+i])
}

func (c cells) conj(s api.Step, i int) { c[s.Dst+i] = cplx.Conj(c[s.Dst+i]) }

func (c cells) over(s api.Step, i int) { c[s.Dst+i] = cplx.Over(c[s.Dst+i], s.N) }
