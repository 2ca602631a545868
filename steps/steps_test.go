package steps

import (
	"math"
	"strings"
	"testing"

	"timbre/api"
)

// The chapter's table, told another way than by the program: names and limits are written out.

const (
	cells  = 262144
	inner  = 16384
	direct = 64
	steps  = 65536
)

var names = []string{"", "gather", "scatter", "zero", "twist", "fly", "direct", "chirp", "fill", "times", "conj", "over"}

// letters are those of the fields that an operation has, in the order of its bytes: d s j c n k.
var letters = []string{"", "dsjc", "dsjc", "dc", "dcnk", "djcn", "dsjcn", "dcn", "dcn", "dsc", "dc", "dcn"}

const all = "dsjcnk"

// field is where the field of a letter stands in a step.
func field(s *api.Step, letter byte) *int {
	switch letter {
	case 'd':
		return &s.Dst
	case 's':
		return &s.Src
	case 'j':
		return &s.Jump
	case 'c':
		return &s.Count
	case 'n':
		return &s.N
	case 'k':
		return &s.K
	}
	panic("no field")
}

// told is whether a step is in form, by the table's rows.
func told(s api.Step) bool {
	if s.Dst < 0 || s.Dst >= cells || s.Count < 1 || s.Count > cells {
		return false
	}
	src := s.Src >= 0 && s.Src < cells
	jump := s.Jump >= 1 && s.Jump <= cells
	n := s.N >= 1 && s.N <= inner
	switch s.Op {
	case api.OpGather, api.OpScatter:
		return src && jump && s.N == 0 && s.K == 0
	case api.OpZero, api.OpConj:
		return s.Src == 0 && s.Jump == 0 && s.N == 0 && s.K == 0
	case api.OpTwist:
		return s.Src == 0 && s.Jump == 0 && n && s.K >= 0 && s.K < s.N
	case api.OpFly:
		return s.Src == 0 && jump && s.N >= 2 && s.N <= 5 && s.K == 0 && s.Count <= s.Jump
	case api.OpDirect:
		return src && jump && s.N >= 1 && s.N <= direct && s.K == 0 && s.Count <= s.N
	case api.OpChirp:
		return s.Src == 0 && s.Jump == 0 && n && s.K == 0 && s.Count <= s.N
	case api.OpFill:
		return s.Src == 0 && s.Jump == 0 && n && s.K == 0 && s.Count > 2*(s.N-1) && s.Count <= inner
	case api.OpTimes:
		return src && s.Jump == 0 && s.N == 0 && s.K == 0
	case api.OpOver:
		return s.Src == 0 && s.Jump == 0 && n && s.K == 0
	}
	return false
}

// hold holds Form and Acts of a step against what is told, which it answers.
func hold(t *testing.T, s api.Step) bool {
	good := told(s)
	err, acts := Form(s), Acts(s)
	if good && (err != nil || acts != s.Count) {
		t.Fatalf("%+v is in form: Form %v, Acts %d", s, err, acts)
	}
	if !good && (err != api.ErrProgram || acts != 0) {
		t.Fatalf("%+v isn't in form: Form %v, Acts %d", s, err, acts)
	}
	return good
}

// edges are the numbers at which a field of that letter begins or ends to be in its range, by itself or by another one, and numbers that wrap round there.
func edges(letter byte) []int {
	switch letter {
	case 'd', 's':
		return []int{math.MinInt, -1, 0, 1, cells - 1, cells, math.MaxInt}
	case 'j':
		return []int{math.MinInt, -1, 0, 1, 2, 3, 64, cells, cells + 1, math.MaxInt}
	case 'c':
		return []int{math.MinInt, -1, 0, 1, 2, 3, 4, 5, 6, 63, 64, 65, inner - 1, inner, inner + 1, cells, cells + 1, math.MaxInt}
	case 'n':
		return []int{math.MinInt, math.MinInt + 1, -1, 0, 1, 2, 3, 5, 6, 64, 65, 8192, 8193, inner, inner + 1, 1 << 62, math.MaxInt}
	}
	return []int{math.MinInt, -1, 0, 1, 2, 4, 5, 63, 64, inner - 1, inner, math.MaxInt}
}

// strange are numbers of no operation: some wrap round to one in fewer bits.
var strange = []int{math.MinInt, math.MinInt + 3, -256 + 3, -3, -1, 0, 12, 13, 256 + 3, 1<<16 + 3, 1<<32 + 3, math.MaxInt}

func TestNames(t *testing.T) {
	met := map[string]int{}
	for op := 1; op <= 11; op++ {
		name, ok := Name(op)
		if name != names[op] || !ok {
			t.Errorf("Name(%d) = %q, %v, want %q", op, name, ok, names[op])
		}
		if got, ok := Op(name); got != op || !ok {
			t.Errorf("Op(%q) = %d, %v, want %d", name, got, ok, op)
		}
		met[name] = op
	}
	if len(met) != 11 {
		t.Errorf("%d names of eleven operations", len(met))
	}
	for op := -70000; op <= 70000; op++ {
		if name, ok := Name(op); (op < 1 || op > 11) && (name != "" || ok) {
			t.Fatalf("Name(%d) = %q, %v", op, name, ok)
		}
	}
	for _, op := range strange {
		if name, ok := Name(op); name != "" || ok {
			t.Errorf("Name(%d) = %q, %v", op, name, ok)
		}
	}
}

func TestNoNames(t *testing.T) {
	texts := []string{"", " ", "\x00", "0", "1", "11", "none", "free", "flies", "Dst"}
	for _, name := range names[1:] {
		texts = append(texts, strings.ToUpper(name), strings.ToUpper(name[:1])+name[1:], name+" ", " "+name, name+"\x00", name+name, name[1:])
		for end := range name {
			texts = append(texts, name[:end])
		}
		for i := range name {
			texts = append(texts, name[:i]+"\xff"+name[i+1:])
		}
	}
	for _, s := range texts {
		if op, ok := Op(s); op != 0 || ok {
			t.Errorf("Op(%q) = %d, %v", s, op, ok)
		}
	}
}

func TestFormExamples(t *testing.T) {
	for _, s := range []api.Step{
		{Op: api.OpTwist, Dst: 3, Count: 2, N: 8, K: 7},
		{Op: api.OpFly, Jump: 2, Count: 2, N: 2},
		{Op: api.OpFill, Count: 5, N: 3},
		{Op: api.OpZero, Count: 1},
	} {
		if err := Form(s); err != nil || Acts(s) != s.Count {
			t.Errorf("Form(%+v) = %v, Acts %d", s, err, Acts(s))
		}
	}
	for _, s := range []api.Step{
		{Op: api.OpTwist, Dst: 3, Count: 2, N: 8, K: 8},
		{Op: api.OpTwist, Dst: 3, Jump: 1, Count: 2, N: 8, K: 7},
		{Op: api.OpFly, Jump: 2, Count: 3, N: 2},
		{Op: api.OpFill, Count: 4, N: 3},
		{},
	} {
		if err := Form(s); err != api.ErrProgram || Acts(s) != 0 {
			t.Errorf("Form(%+v) = %v, Acts %d", s, err, Acts(s))
		}
	}
}

// overEdges goes over the steps of an operation whose fields are all at edges.
func overEdges(op int, do func(api.Step)) {
	for _, d := range edges('d') {
		for _, s := range edges('s') {
			for _, j := range edges('j') {
				for _, c := range edges('c') {
					for _, n := range edges('n') {
						for _, k := range edges('k') {
							do(api.Step{Op: op, Dst: d, Src: s, Jump: j, Count: c, N: n, K: k})
						}
					}
				}
			}
		}
	}
}

func TestFormAtEdges(t *testing.T) {
	for op := 1; op <= 11; op++ {
		good := 0
		overEdges(op, func(s api.Step) {
			if hold(t, s) {
				good++
			}
		})
		if good == 0 {
			t.Errorf("no step of %s is in form", names[op])
		}
	}
}

func TestFormOfNoOperation(t *testing.T) {
	for _, op := range strange {
		for known := 1; known <= 11; known++ {
			s := least(known)
			s.Op = op
			hold(t, s)
		}
		hold(t, api.Step{Op: op})
		hold(t, api.Step{Op: op, Count: 1})
	}
}

// least is the step in form of an operation with the least numbers.
func least(op int) api.Step {
	s := api.Step{Op: op, Count: 1}
	if strings.Contains(letters[op], "j") {
		s.Jump = 1
	}
	if strings.Contains(letters[op], "n") {
		s.N = 1
	}
	if op == api.OpFly {
		s.N = 2
	}
	return s
}

// TestFormBetweenFields goes over whole ranges where one field bounds another.
func TestFormBetweenFields(t *testing.T) {
	for n := -1; n <= direct+2; n++ {
		for c := -1; c <= direct+2; c++ {
			hold(t, api.Step{Op: api.OpDirect, Src: 7, Jump: 3, Count: c, N: n})
			hold(t, api.Step{Op: api.OpFly, Jump: 40, Count: c, N: n})
			for n := 2; n <= 5; n++ {
				hold(t, api.Step{Op: api.OpFly, Jump: c + 5, Count: n + c, N: n})
			}
		}
	}
	for n := -1; n <= inner+2; n++ {
		for off := -2; off <= 2; off++ {
			hold(t, api.Step{Op: api.OpTwist, Count: cells, N: n, K: n + off})
			hold(t, api.Step{Op: api.OpTwist, Count: 1, N: n, K: n/2 + off})
			hold(t, api.Step{Op: api.OpChirp, Count: n + off, N: n})
			hold(t, api.Step{Op: api.OpChirp, Count: n/2 + off, N: n})
			hold(t, api.Step{Op: api.OpFill, Count: 2*n + off, N: n})
			hold(t, api.Step{Op: api.OpFill, Count: inner + off, N: n})
			hold(t, api.Step{Op: api.OpOver, Count: cells + off, N: n})
		}
	}
	for j := -1; j <= cells+2; j++ {
		for off := -1; off <= 1; off++ {
			hold(t, api.Step{Op: api.OpFly, Jump: j, Count: j + off, N: 5})
		}
		hold(t, api.Step{Op: api.OpGather, Dst: cells - j, Src: j, Jump: j, Count: cells - j})
	}
}

// TestUnusedFields is P15.4.
func TestUnusedFields(t *testing.T) {
	for op := 1; op <= 11; op++ {
		for _, letter := range []byte(all) {
			if strings.IndexByte(letters[op], letter) >= 0 {
				continue
			}
			for _, s := range some(op) {
				for _, x := range []int{math.MinInt, -cells, -2, -1, 1, 2, 3, 5, 8, cells, 1 << 32, math.MaxInt} {
					if !hold(t, s) {
						t.Fatalf("%+v should be in form", s)
					}
					other := s
					*field(&other, letter) = x
					if err := Form(other); err != api.ErrProgram {
						t.Errorf("Form(%+v) = %v, though %s has no %c", other, err, names[op], letter)
					}
				}
			}
		}
	}
}

// some are steps in form of an operation: the least one, and those with each field that it has made another.
func some(op int) []api.Step {
	out := []api.Step{least(op)}
	for _, letter := range []byte(letters[op]) {
		for _, x := range edges(letter) {
			s := least(op)
			*field(&s, letter) = x
			if told(s) {
				out = append(out, s)
			}
			s = middle(op)
			*field(&s, letter) = x
			if told(s) {
				out = append(out, s)
			}
		}
	}
	return out
}

// middle is a step in form of an operation in which no field that it has is 0, and no two of them are the same.
func middle(op int) api.Step {
	s := api.Step{Op: op}
	for _, letter := range []byte(letters[op]) {
		*field(&s, letter) = map[byte]int{'d': 300, 's': 500, 'j': 7, 'c': 3, 'n': 4, 'k': 2}[letter]
	}
	if op == api.OpFill {
		s.Count = 9
	}
	return s
}

func TestSomeAreInForm(t *testing.T) {
	for op := 1; op <= 11; op++ {
		if s := middle(op); !told(s) {
			t.Errorf("%+v should be in form", s)
		}
		if len(some(op)) < 5 {
			t.Errorf("few steps of %s", names[op])
		}
	}
}

func TestSame(t *testing.T) {
	sample := func() api.Program {
		return api.Program{Length: 1, Cells: 2, In: 3, Out: 4, Steps: []api.Step{
			{Op: 5, Dst: 6, Src: 7, Jump: 8, Count: 9, N: 10, K: 11},
			{Op: math.MinInt, Dst: -1, Src: math.MaxInt},
			{},
		}}
	}
	if !Same(sample(), sample()) {
		t.Error("a program isn't the same as itself")
	}
	for i, change := range []func(*api.Program){
		func(p *api.Program) { p.Length++ },
		func(p *api.Program) { p.Cells = -p.Cells },
		func(p *api.Program) { p.In += 1 << 32 },
		func(p *api.Program) { p.Out = math.MinInt },
		func(p *api.Program) { p.Length, p.Cells = p.Cells, p.Length },
		func(p *api.Program) { p.In, p.Out = p.Out, p.In },
		func(p *api.Program) { p.Steps = nil },
		func(p *api.Program) { p.Steps = p.Steps[:2] },
		func(p *api.Program) { p.Steps = append(p.Steps, api.Step{}) },
		func(p *api.Program) { p.Steps[0], p.Steps[1] = p.Steps[1], p.Steps[0] },
		func(p *api.Program) { p.Steps[1].Op++ },
		func(p *api.Program) { p.Steps[2].Op = 12 },
	} {
		p := sample()
		change(&p)
		if Same(p, sample()) || Same(sample(), p) || !Same(p, p) {
			t.Errorf("change %d isn't seen", i)
		}
	}
	for step := range sample().Steps {
		for _, letter := range []byte(all) {
			for _, off := range []int{-1, 1, 1 << 32, math.MinInt} {
				p := sample()
				*field(&p.Steps[step], letter) += off
				if Same(p, sample()) || Same(sample(), p) {
					t.Errorf("%c of step %d and %d more isn't seen", letter, step, off)
				}
			}
		}
	}
	if !Same(api.Program{}, api.Program{Steps: []api.Step{}}) || !Same(api.Program{Steps: make([]api.Step, 0, 3)}, api.Program{}) {
		t.Error("no steps and no steps aren't the same")
	}
}
