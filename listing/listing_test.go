package listing

import (
	"fmt"
	"math"
	"math/big"
	"math/rand"
	"regexp"
	"slices"
	"strconv"
	"strings"
	"testing"

	"timbre/api"
	"timbre/steps"
)

var names = []string{"", "gather", "scatter", "zero", "twist", "fly", "direct", "chirp", "fill", "times", "conj", "over"}

// toldLine is a step's line, in form or not, of an operation that there is.
func toldLine(s api.Step) string {
	line := names[s.Op]
	for _, part := range []struct {
		letter string
		number int
	}{{"d", s.Dst}, {"s", s.Src}, {"j", s.Jump}, {"c", s.Count}, {"n", s.N}, {"k", s.K}} {
		if part.number != 0 {
			line += fmt.Sprintf(" %s%d", part.letter, part.number)
		}
	}
	return line
}

func toldText(p api.Program) string {
	lines := fmt.Sprintf("timbre %d %d %d %d\n", p.Length, p.Cells, p.In, p.Out)
	for _, s := range p.Steps {
		lines += toldLine(s) + "\n"
	}
	return lines
}

// The forms of lines, the size of their numbers aside.
var (
	headForm = regexp.MustCompile(`^timbre (0|-?[1-9][0-9]*) (0|-?[1-9][0-9]*) (0|-?[1-9][0-9]*) (0|-?[1-9][0-9]*)$`)
	stepForm = regexp.MustCompile(`^(gather|scatter|zero|twist|fly|direct|chirp|fill|times|conj|over)(?: d(-?[1-9][0-9]*))?(?: s(-?[1-9][0-9]*))?(?: j(-?[1-9][0-9]*))?(?: c(-?[1-9][0-9]*))?(?: n(-?[1-9][0-9]*))?(?: k(-?[1-9][0-9]*))?$`)
)

// ints are these texts as numbers (0 of an empty one), and whether all of them fit.
func ints(list []string) ([]int, bool) {
	var out []int
	for _, s := range list {
		x := new(big.Int)
		if s != "" {
			x.SetString(s, 10)
		}
		if !x.IsInt64() {
			return nil, false
		}
		out = append(out, int(x.Int64()))
	}
	return out, true
}

// toldRead is what Read answers, by the chapter's words: the forms are those of the library's expressions, which know no lines here (an s with line feeds is cut up ahead of them).
func toldRead(s string) (api.Program, int, error) {
	lines := strings.Split(s, "\n")
	tail := lines[len(lines)-1] // what stands behind the last line feed
	lines = lines[:len(lines)-1]
	var p api.Program
	for i, line := range lines {
		if i == 0 {
			m := headForm.FindStringSubmatch(line)
			if m == nil {
				return api.Program{}, 1, api.ErrText
			}
			x, fits := ints(m[1:])
			if !fits {
				return api.Program{}, 1, api.ErrText
			}
			p = api.Program{Length: x[0], Cells: x[1], In: x[2], Out: x[3]}
			continue
		}
		m := stepForm.FindStringSubmatch(line)
		if m == nil {
			return api.Program{}, i + 1, api.ErrText
		}
		x, fits := ints(m[2:])
		if !fits {
			return api.Program{}, i + 1, api.ErrText
		}
		step := api.Step{Op: slices.Index(names, m[1]), Dst: x[0], Src: x[1], Jump: x[2], Count: x[3], N: x[4], K: x[5]}
		if steps.Form(step) != nil {
			return api.Program{}, i + 1, api.ErrProgram
		}
		p.Steps = append(p.Steps, step)
	}
	if tail != "" || len(lines) == 0 {
		return api.Program{}, len(lines) + 1, api.ErrText
	}
	return p, 0, nil
}

func alike(a, b api.Program) bool {
	return a.Length == b.Length && a.Cells == b.Cells && a.In == b.In && a.Out == b.Out && slices.Equal(a.Steps, b.Steps)
}

// holdRead holds Read of a text against what is told, and what it takes against Text (P16.2).
func holdRead(t *testing.T, s string) error {
	t.Helper()
	want, wantAt, wantErr := toldRead(s)
	p, at, err := Read(s)
	if !alike(p, want) || at != wantAt || err != wantErr {
		t.Fatalf("Read(%.200q) = %+v, %d, %v, want %+v, %d, %v", s, p, at, err, want, wantAt, wantErr)
	}
	if err == nil {
		if again, err := Text(p); again != s || err != nil {
			t.Fatalf("Text of Read(%.200q) = %.200q, %v", s, again, err)
		}
	}
	return err
}

// holdText holds Text of a program whose steps are in form against what is told, and takes it back (P16.2).
func holdText(t *testing.T, p api.Program) string {
	t.Helper()
	s, err := Text(p)
	if s != toldText(p) || err != nil {
		t.Fatalf("Text(%+v) = %q, %v, want %q", p, s, err, toldText(p))
	}
	if q, at, err := Read(s); !alike(q, p) || !steps.Same(q, p) || at != 0 || err != nil {
		t.Fatalf("Read(%q) = %+v, %d, %v", s, q, at, err)
	}
	return s
}

func refusesRead(t *testing.T, s string, wantAt int, want error) {
	t.Helper()
	if p, at, err := Read(s); !alike(p, api.Program{}) || at != wantAt || err != want {
		t.Fatalf("Read(%.200q) = %+v, %d, %v, want %d, %v", s, p, at, err, wantAt, want)
	}
	holdRead(t, s)
}

func refusesWritten(t *testing.T, s api.Step) {
	t.Helper()
	if line, err := Line(s); line != "" || err != api.ErrProgram {
		t.Fatalf("Line(%+v) = %q, %v", s, line, err)
	}
	good := middle(api.OpZero)
	for _, list := range [][]api.Step{{s}, {good, s}, {s, good}, {good, good, s}} {
		if text, err := Text(api.Program{Length: 1, Steps: list}); text != "" || err != api.ErrProgram {
			t.Fatalf("Text with %+v = %q, %v", s, text, err)
		}
	}
}

// middle is a step of an operation that has all its fields, no two of them equal where they needn't be.
func middle(op int) api.Step {
	return map[int]api.Step{
		api.OpGather:  {Op: op, Dst: 300, Src: 500, Jump: 7, Count: 3},
		api.OpScatter: {Op: op, Dst: 300, Src: 500, Jump: 7, Count: 3},
		api.OpZero:    {Op: op, Dst: 300, Count: 3},
		api.OpTwist:   {Op: op, Dst: 300, Count: 3, N: 4, K: 2},
		api.OpFly:     {Op: op, Dst: 300, Jump: 7, Count: 3, N: 4},
		api.OpDirect:  {Op: op, Dst: 300, Src: 500, Jump: 7, Count: 3, N: 4},
		api.OpChirp:   {Op: op, Dst: 300, Count: 3, N: 4},
		api.OpFill:    {Op: op, Dst: 300, Count: 9, N: 4},
		api.OpTimes:   {Op: op, Dst: 300, Src: 500, Count: 3},
		api.OpConj:    {Op: op, Dst: 300, Count: 3},
		api.OpOver:    {Op: op, Dst: 300, Count: 3, N: 4},
	}[op]
}

// sample is a program with a step of each operation.
func sample() api.Program {
	p := api.Program{Length: 1, Cells: 130, In: -2, Out: 262144}
	for op := 1; op <= 11; op++ {
		p.Steps = append(p.Steps, middle(op))
	}
	return p
}

// anyStep has any numbers in form; many of them are 0.
func anyStep(r *rand.Rand) api.Step {
	number := func() int { return r.Intn(262145) >> r.Intn(19) * r.Intn(2) }
	for {
		s := middle(1 + r.Intn(11))
		for _, x := range []*int{&s.Dst, &s.Src, &s.Jump, &s.Count, &s.N, &s.K} {
			if r.Intn(2) == 0 {
				*x = number()
			}
		}
		if steps.Form(s) == nil {
			return s
		}
	}
}

func anyProgram(r *rand.Rand, most int) api.Program {
	head := func() int { return int(r.Uint64()) >> r.Intn(64) * r.Intn(2) }
	p := api.Program{Length: head(), Cells: head(), In: head(), Out: head()}
	for range r.Intn(most + 1) {
		p.Steps = append(p.Steps, anyStep(r))
	}
	return p
}

func TestExamples(t *testing.T) {
	p := api.Program{Length: 2, Cells: 2, Steps: []api.Step{{Op: api.OpFly, Jump: 1, Count: 1, N: 2}}}
	head := "timbre 2 2 0 0\n"
	if s, err := Text(p); s != head+"fly j1 c1 n2\n" || err != nil {
		t.Errorf("Text = %q, %v", s, err)
	}
	if s, err := Line(p.Steps[0]); s != "fly j1 c1 n2" || err != nil {
		t.Errorf("Line = %q, %v", s, err)
	}
	if got, at, err := Read(head + "fly j1 c1 n2\n"); !alike(got, p) || at != 0 || err != nil {
		t.Errorf("Read = %+v, %d, %v", got, at, err)
	}
	if got, at, err := Read(head); !alike(got, api.Program{Length: 2, Cells: 2}) || at != 0 || err != nil {
		t.Errorf("Read of no steps = %+v, %d, %v", got, at, err)
	}
	refusesRead(t, "", 1, api.ErrText)
	refusesRead(t, "timbre 2 2 0 0", 1, api.ErrText)
	for _, line := range []string{"fly j1  c1 n2", "fly c1 j1 n2", "fly j01 c1 n2", "fly d0 j1 c1 n2", "fly j1 c1 n2 k0", "flies"} {
		refusesRead(t, head+line+"\n", 2, api.ErrText)
	}
	refusesRead(t, head+"fly j1 c1 n7\n", 2, api.ErrProgram)
}

func TestLineOfEachOperation(t *testing.T) {
	for op, want := range []string{
		api.OpGather:  "gather d300 s500 j7 c3",
		api.OpScatter: "scatter d300 s500 j7 c3",
		api.OpZero:    "zero d300 c3",
		api.OpTwist:   "twist d300 c3 n4 k2",
		api.OpFly:     "fly d300 j7 c3 n4",
		api.OpDirect:  "direct d300 s500 j7 c3 n4",
		api.OpChirp:   "chirp d300 c3 n4",
		api.OpFill:    "fill d300 c9 n4",
		api.OpTimes:   "times d300 s500 c3",
		api.OpConj:    "conj d300 c3",
		api.OpOver:    "over d300 c3 n4",
	} {
		if op == 0 {
			continue
		}
		if line, err := Line(middle(op)); line != want || err != nil {
			t.Errorf("Line of %s = %q, %v", names[op], line, err)
		}
		if s := holdText(t, api.Program{Steps: []api.Step{middle(op), middle(op)}}); s != "timbre 0 0 0 0\n"+want+"\n"+want+"\n" {
			t.Errorf("Text with %s = %q", names[op], s)
		}
	}
}

// TestFields sets each field of each operation to all kinds of numbers: what isn't in form is not written, and refused as a step when it is read.
func TestFields(t *testing.T) {
	numbers := []int{math.MinInt, math.MinInt + 1, -1 << 32, -10, -1, 0, 1, 2, 3, 4, 5, 6, 9, 10, 64, 65, 99, 100, 8192, 16383, 16384, 16385, 262143, 262144, 262145, 1 << 32, 1<<32 + 1, math.MaxInt - 1, math.MaxInt}
	good, bad := 0, 0
	for op := 1; op <= 11; op++ {
		for field := range 6 {
			for _, x := range numbers {
				s := middle(op)
				*[]*int{&s.Dst, &s.Src, &s.Jump, &s.Count, &s.N, &s.K}[field] = x
				if steps.Form(s) != nil {
					bad++
					refusesWritten(t, s)
					refusesRead(t, "timbre 0 0 0 0\n"+toldLine(s)+"\n", 2, api.ErrProgram)
					continue
				}
				good++
				if line, err := Line(s); line != toldLine(s) || err != nil {
					t.Fatalf("Line(%+v) = %q, %v", s, line, err)
				}
				holdText(t, api.Program{Steps: []api.Step{s}})
			}
		}
	}
	if good < 200 || bad < 1000 {
		t.Errorf("%d steps in form, %d not", good, bad)
	}
}

func TestNoOperation(t *testing.T) {
	for _, op := range []int{math.MinInt, -3, -1, 0, 12, 13, 256 + 3, 1<<32 + 3, math.MaxInt} {
		refusesWritten(t, api.Step{Op: op})
		refusesWritten(t, api.Step{Op: op, Count: 1})
	}
	refusesWritten(t, api.Step{})
	for _, name := range []string{"", "Zero", "ZERO", "zer", "zeros", "zero0", "ze ro", "3", "0", "timbre", "free", "none"} {
		for _, rest := range []string{"", " c1", " d300 c3"} {
			refusesRead(t, "timbre 0 0 0 0\n"+name+rest+"\n", 2, api.ErrText)
		}
	}
}

// TestHeads: nothing is asked of a program's numbers; each is written as it is, and read up to the ends of the ints.
func TestHeads(t *testing.T) {
	numbers := []int{math.MinInt, math.MinInt + 1, -1 << 32, -262145, -10, -9, -1, 0, 1, 9, 10, 11, 99, 100, 4096, 262144, 262145, 1 << 32, math.MaxInt - 1, math.MaxInt}
	for i, x := range numbers {
		for _, y := range numbers {
			for place := range 4 {
				list := []int{7, 8, 9, 10}
				list[place] = x
				list[(place+1+i%3)%4] = y
				p := api.Program{Length: list[0], Cells: list[1], In: list[2], Out: list[3]}
				holdText(t, p)
				p.Steps = []api.Step{middle(api.OpConj)}
				holdText(t, p)
			}
		}
	}
	if s := holdText(t, api.Program{}); s != "timbre 0 0 0 0\n" {
		t.Errorf("Text of nothing = %q", s)
	}
	if s := holdText(t, api.Program{Length: 1, Cells: -2, In: math.MinInt, Out: math.MaxInt, Steps: []api.Step{}}); s != "timbre 1 -2 -9223372036854775808 9223372036854775807\n" {
		t.Errorf("Text = %q", s)
	}
}

// noNumbers are texts that aren't numbers, or don't fit.
var noNumbers = []string{"", "-", "+", "+1", "-0", "+0", "00", "01", "007", "-01", "--1", "1-", "1+", "1.", "1.0", ".1", "1e0", "0x1", "0b1", "0o7", "1_0", "1,0", "a", "1a", "a1", "1 ", "\t1", "1\t", "1\r", "1\x00", "\x001", "\u0661", "\uff11", "\u22121", "\xff", "1\xff",
	"9223372036854775808", "-9223372036854775809", "9223372036854775810", "10000000000000000000", "18446744073709551615", "18446744073709551616", "18446744073709551617", "-18446744073709551617", "36893488147419103233", "09223372036854775807", "-09223372036854775808", "99999999999999999999", "340282366920938463463374607431768211457", strings.Repeat("1", 5000), "-" + strings.Repeat("9", 5000), strings.Repeat("0", 5000) + "1"}

func TestNoNumbers(t *testing.T) {
	for _, x := range noNumbers {
		for place := range 4 {
			list := []string{"7", "8", "9", "10"}
			list[place] = x
			refusesRead(t, "timbre "+strings.Join(list, " ")+"\n", 1, api.ErrText)
			refusesRead(t, "timbre "+strings.Join(list, " ")+"\nzero c1\n", 1, api.ErrText)
		}
		for op := 1; op <= 11; op++ {
			for i, letter := range []string{"d", "s", "j", "c", "n", "k"} {
				s := middle(op)
				*[]*int{&s.Dst, &s.Src, &s.Jump, &s.Count, &s.N, &s.K}[i] = 77
				line := strings.Replace(toldLine(s), letter+"77", letter+x, 1)
				refusesRead(t, "timbre 0 0 0 0\n"+line+"\n", 2, api.ErrText)
			}
		}
	}
	for _, letter := range "dsjcnk" {
		for _, x := range []string{"0", "-0", "00"} { // a field that is 0 isn't written
			refusesRead(t, "timbre 0 0 0 0\nzero "+string(letter)+x+"\n", 2, api.ErrText)
		}
		for _, x := range []string{"1", "-1", "262144", "9223372036854775807", "-9223372036854775808"} { // of the form
			if letter != 'c' || x[0] == '-' || len(x) > 6 {
				refusesRead(t, "timbre 0 0 0 0\nzero "+string(letter)+x+"\n", 2, api.ErrProgram)
			}
		}
	}
}

// TestEveryFields goes over all lists of up to four parts of a step's line: each letter once at most, in their order.
func TestEveryFields(t *testing.T) {
	parts := []string{"", " d1", " s2", " j3", " c1", " n4", " k3", " c-1", " x1", " 1", " d"}
	got := map[error]int{}
	for _, name := range names {
		for code := range len(parts) * len(parts) * len(parts) * len(parts) {
			line := name
			for c, i := code, 0; i < 4; c, i = c/len(parts), i+1 {
				line += parts[c%len(parts)]
			}
			got[holdRead(t, "timbre 4 4 0 0\n"+line+"\n")]++
		}
	}
	if got[nil] < 50 || got[api.ErrText] < 1000 || got[api.ErrProgram] < 1000 {
		t.Errorf("too few of a kind: %v", got)
	}
}

func TestHeadLines(t *testing.T) {
	for _, head := range []string{"", " ", "timbre", "timbre ", "timbre 1", "timbre 1 2", "timbre 1 2 3", "timbre 1 2 3 ", "timbre 1 2 3 4 ", "timbre 1 2 3 4 5", " timbre 1 2 3 4", "timbre  1 2 3 4", "timbre 1  2 3 4", "timbre 1 2  3 4", "timbre 1 2 3  4", "Timbre 1 2 3 4", "TIMBRE 1 2 3 4", "timbr 1 2 3 4", "timbres 1 2 3 4", "timbre1 2 3 4", "timbre1 2 3 4 5", "1 2 3 4", "timbre\t1 2 3 4", "timbre 1\t2 3 4", "timbre 1 2 3 4\r", "timbre 1 2 3 4\x00", "\ufefftimbre 1 2 3 4", "timbre\u00a01 2 3 4", "timbre l1 c2 i3 o4", "timbre 1,2,3,4", "zero c1", "gather 1 2 3 4", "timbre timbre 1 2 3 4", "timbre 1 2 3 4 zero c1"} {
		refusesRead(t, head, 1, api.ErrText)
		refusesRead(t, head+"\n", 1, api.ErrText)
		refusesRead(t, head+"\nzero c1\n", 1, api.ErrText)
		refusesRead(t, "\n"+head+"\n", 1, api.ErrText)
	}
	for _, first := range []string{"timbre 1 2 3 4", "timbre -1 -2 -3 -4", "timbre 0 0 0 0"} {
		if holdRead(t, first+"\n") != nil {
			t.Errorf("%q is refused", first)
		}
		refusesRead(t, first, 1, api.ErrText)
		refusesRead(t, first+"\n"+first+"\n", 2, api.ErrText)
		refusesRead(t, first+"\n\n", 2, api.ErrText)
		refusesRead(t, first+"\r\n", 1, api.ErrText)
		refusesRead(t, "\n"+first+"\n", 1, api.ErrText)
	}
}

// TestFirstFault puts faults of both kinds into all places, and another one behind: the first is told.
func TestFirstFault(t *testing.T) {
	faults := map[string]error{"": api.ErrText, " ": api.ErrText, "zero c1 ": api.ErrText, " zero c1": api.ErrText, "zero": api.ErrProgram, "zero c0": api.ErrText, "zero c1\r": api.ErrText, "fly j1 c1 n7": api.ErrProgram, "flies": api.ErrText, "timbre 1 2 3 4": api.ErrText, "# zero": api.ErrText, "zero c-1": api.ErrProgram, "conj c262145": api.ErrProgram}
	for count := 1; count <= 12; count++ {
		for at := range count {
			for fault, want := range faults {
				lines := slices.Repeat([]string{"zero c1"}, count)
				lines[at] = fault
				head := "timbre 1 2 3 4\n"
				refusesRead(t, head+strings.Join(lines, "\n")+"\n", at+2, want)
				for other := range faults {
					lines[count-1] = other
					lines[at] = fault
					refusesRead(t, head+strings.Join(lines, "\n")+"\n", at+2, want)
				}
				refusesRead(t, "timbre 1 2 3 x\n"+strings.Join(lines, "\n")+"\n", 1, api.ErrText)
			}
		}
	}
	// A line without its line feed isn't of the form, whatever stands in it.
	for fault := range faults {
		if fault != "" {
			refusesRead(t, "timbre 1 2 3 4\n"+fault, 2, api.ErrText)
			refusesRead(t, "timbre 1 2 3 4\nzero c1\nzero c2\n"+fault, 4, api.ErrText)
		}
	}
	refusesRead(t, "timbre 1 2 3 4\nzero c1", 2, api.ErrText)
	refusesRead(t, "timbre 1 2 3 4\nzero\nzero c1", 2, api.ErrProgram)
}

// TestCutOff is P16.3: what is cut off behind a line feed is the program's first steps, anything else is refused, by its last line.
func TestCutOff(t *testing.T) {
	r := rand.New(rand.NewSource(16))
	for i := range 300 {
		p := anyProgram(r, 12)
		if i == 0 {
			p = sample()
		}
		s := holdText(t, p)
		for end := range s {
			lines := strings.Count(s[:end], "\n")
			got, at, err := Read(s[:end])
			if end == 0 || s[end-1] != '\n' {
				if !alike(got, api.Program{}) || at != lines+1 || err != api.ErrText {
					t.Fatalf("Read(%q) = %+v, %d, %v", s[:end], got, at, err)
				}
				continue
			}
			want := p
			want.Steps = p.Steps[:lines-1]
			if !alike(got, want) || at != 0 || err != nil {
				t.Fatalf("Read(%q) = %+v, %d, %v", s[:end], got, at, err)
			}
		}
	}
}

func TestThereAndBack(t *testing.T) {
	r := rand.New(rand.NewSource(17))
	for range 20000 {
		p := anyProgram(r, 8)
		before := slices.Clone(p.Steps)
		holdText(t, p)
		if !slices.Equal(p.Steps, before) {
			t.Fatalf("Text changes the steps %+v to %+v", before, p.Steps)
		}
	}
}

// TestSpoiltText changes, adds and takes away each byte of a listing.
func TestSpoiltText(t *testing.T) {
	s := holdText(t, sample())
	got := map[error]int{}
	for i := range len(s) + 1 {
		for x := range 256 {
			got[holdRead(t, s[:i]+string([]byte{byte(x)})+s[i:])]++
			if i < len(s) {
				got[holdRead(t, s[:i]+string([]byte{byte(x)})+s[i+1:])]++
			}
		}
		if i < len(s) {
			got[holdRead(t, s[:i]+s[i+1:])]++
		}
	}
	if got[nil] < 500 || got[api.ErrText] < 1000 || got[api.ErrProgram] < 50 {
		t.Errorf("too few of a kind: %v", got)
	}
	r := rand.New(rand.NewSource(18))
	pieces := []string{" ", "\n", "0", "1", "-", "9", "d", "s", "j", "c1", "n", "k", "zero", "fly", " c1", " n2", "timbre", "\r", "\t", "\x00"}
	for range 100000 {
		s := toldText(anyProgram(r, 3))
		for range 1 + r.Intn(3) {
			i := r.Intn(len(s) + 1)
			j := min(len(s), i+r.Intn(3))
			s = s[:i] + pieces[r.Intn(len(pieces))] + s[j:]
		}
		holdRead(t, s)
	}
}

// TestShortTexts goes over all short texts of some bytes, alone, as a first line and as a second one.
func TestShortTexts(t *testing.T) {
	texts := []string{""}
	for from := 0; len(texts[from]) < 4; from++ {
		for _, c := range []byte("\n -01dck") {
			texts = append(texts, texts[from]+string(c))
		}
	}
	for _, s := range texts {
		holdRead(t, s)
		holdRead(t, "timbre 1 1 0 0"+s)
		holdRead(t, "timbre 1 1 0"+s+"\n")
		holdRead(t, "timbre 1 1 0 0\nzero "+s)
		holdRead(t, "timbre 1 1 0 0\nzero c1"+s+"\n")
		holdRead(t, "timbre 1 1 0 0\nzero"+s+"c1\n")
	}
	for x := range 256 {
		for y := range 256 {
			holdRead(t, string([]byte{byte(x), byte(y)}))
			holdRead(t, "timbre 1 1 0 0\nzero c"+string([]byte{byte(x), byte(y)})+"\n")
		}
	}
}

// TestLong: neither a text nor a program has an end here.
func TestLong(t *testing.T) {
	const count = 1<<16 + 3
	p := api.Program{Length: 5}
	for i := range count {
		s := middle(1 + i%11)
		s.Dst = i
		p.Steps = append(p.Steps, s)
	}
	text, err := Text(p)
	if err != nil || strings.Count(text, "\n") != count+1 || !strings.HasSuffix(text, "\n"+toldLine(p.Steps[count-1])+"\n") {
		t.Fatalf("Text of %d steps: %d bytes, %v", count, len(text), err)
	}
	if q, at, err := Read(text); !alike(q, p) || at != 0 || err != nil {
		t.Errorf("Read of %d steps: %d, %d, %v", count, len(q.Steps), at, err)
	}
	if _, at, err := Read(text + "zero\n"); at != count+2 || err != api.ErrProgram {
		t.Errorf("a fault behind %d steps: %d, %v", count, at, err)
	}
	if _, at, err := Read(text + "zero c1"); at != count+2 || err != api.ErrText {
		t.Errorf("no line feed behind %d steps: %d, %v", count, at, err)
	}
	p.Steps[count-1].Count = 0
	if s, err := Text(p); s != "" || err != api.ErrProgram {
		t.Errorf("a fault in the last of %d steps: %d bytes, %v", count, len(s), err)
	}
	for _, piece := range []string{" ", "\n", "zero ", "1", "-", " d1", "timbre "} {
		long := strings.Repeat(piece, 1<<20)
		refuses := func(s string, wantAt int) {
			if p, at, err := Read(s); !alike(p, api.Program{}) || at != wantAt || err != api.ErrText {
				t.Errorf("Read of many %q = %d, %v", piece, at, err)
			}
		}
		refuses(long, 1)
		refuses("timbre 1 2 3 "+long+"\n", 1)
		refuses("timbre 1 2 3 4\n"+long, 2)
		refuses("timbre 1 2 3 4\nzero c"+long+"\n", 2)
	}
}

// TestReadIsNew: two answers of one text share no steps.
func TestReadIsNew(t *testing.T) {
	s := toldText(sample())
	a, _, _ := Read(s)
	b, _, _ := Read(s)
	for i := range a.Steps {
		a.Steps[i] = api.Step{}
	}
	if !alike(b, sample()) {
		t.Error("a write into one answer shows in another")
	}
}

func TestNumbersOfLines(t *testing.T) {
	head := "timbre 1 2 3 4\n"
	for count := range 300 {
		s := head + strings.Repeat("conj c2\n", count)
		if p, at, err := Read(s); len(p.Steps) != count || at != 0 || err != nil {
			t.Fatalf("Read of %d steps: %d, %d, %v", count, len(p.Steps), at, err)
		}
		refusesRead(t, s+"conj\n"+"conj c"+strconv.Itoa(count)+"x\n", count+2, api.ErrProgram)
		refusesRead(t, s+"conj c2x\nconj\n", count+2, api.ErrText)
	}
}
