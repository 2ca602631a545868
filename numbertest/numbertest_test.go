// Package numbertest holds the program's source against the document's section Numbers: that no product of floats can be fused with the sum behind it, and that Go's own products and quotients of complex numbers aren't used. What a machine without fused operations answers can't tell this.
package numbertest

import (
	"fmt"
	"go/ast"
	"go/build"
	"go/importer"
	"go/parser"
	"go/token"
	"go/types"
	"os/exec"
	"path/filepath"
	"slices"
	"strings"
	"testing"
)

const module = "timbre"

// reader loads the module's packages from their source.
type reader struct {
	set     *token.FileSet
	library types.Importer
	info    *types.Info
	packs   map[string]*types.Package
	files   map[string][]*ast.File
}

func newReader() *reader {
	if build.Default.GOROOT == "" {
		out, _ := exec.Command("go", "env", "GOROOT").Output()
		build.Default.GOROOT = strings.TrimSpace(string(out))
	}
	set := token.NewFileSet()
	return &reader{
		set:     set,
		library: importer.ForCompiler(set, "source", nil),
		info:    &types.Info{Types: map[ast.Expr]types.TypeAndValue{}},
		packs:   map[string]*types.Package{},
		files:   map[string][]*ast.File{},
	}
}

func (r *reader) Import(path string) (*types.Package, error) {
	if !strings.HasPrefix(path, module+"/") {
		return r.library.Import(path)
	}
	if p := r.packs[path]; p != nil {
		return p, nil
	}
	names, err := filepath.Glob(filepath.Join("..", strings.TrimPrefix(path, module+"/"), "*.go"))
	if err != nil {
		return nil, err
	}
	var files []*ast.File
	for _, name := range names {
		if strings.HasSuffix(name, "_test.go") {
			continue
		}
		f, err := parser.ParseFile(r.set, name, nil, 0)
		if err != nil {
			return nil, err
		}
		files = append(files, f)
	}
	return r.check(path, files)
}

func (r *reader) check(path string, files []*ast.File) (*types.Package, error) {
	config := types.Config{Importer: r}
	p, err := config.Check(path, r.set, files, r.info)
	r.packs[path], r.files[path] = p, files
	return p, err
}

// kind is what a running program reckons an expression in; nothing for a constant, which is exact.
func (r *reader) kind(e ast.Expr) types.BasicInfo {
	v := r.info.Types[e]
	if v.Value != nil || v.Type == nil {
		return 0
	}
	if b, ok := v.Type.Underlying().(*types.Basic); ok {
		return b.Info()
	}
	if _, ok := v.Type.(*types.TypeParam); ok { // it may stand for floats or complex numbers
		return types.IsFloat | types.IsComplex
	}
	return 0
}

// faults are the places where a product isn't rounded by itself, or Go's own complex product or quotient is taken.
func (r *reader) faults(path string) []string {
	var out []string
	tell := func(at token.Pos, what string) {
		out = append(out, fmt.Sprintf("%s: %s", r.set.Position(at), what))
	}
	rounded := map[ast.Expr]bool{}
	for _, f := range r.files[path] {
		ast.Inspect(f, func(n ast.Node) bool {
			switch x := n.(type) {
			case *ast.CallExpr:
				if r.info.Types[x.Fun].IsType() && len(x.Args) == 1 && r.kind(x)&types.IsFloat != 0 {
					rounded[ast.Unparen(x.Args[0])] = true
				}
			case *ast.BinaryExpr:
				switch k := r.kind(x); {
				case (x.Op == token.MUL || x.Op == token.QUO) && k&types.IsComplex != 0:
					tell(x.Pos(), "Go's own product or quotient of complex numbers")
				case x.Op == token.MUL && k&types.IsFloat != 0 && !rounded[x]:
					tell(x.Pos(), "a product of floats outside a conversion")
				}
			case *ast.AssignStmt:
				if (x.Tok == token.MUL_ASSIGN || x.Tok == token.QUO_ASSIGN) && r.kind(x.Lhs[0])&(types.IsFloat|types.IsComplex) != 0 {
					tell(x.Pos(), "a product or quotient by assignment")
				}
			}
			return true
		})
	}
	return out
}

// packages are the paths of the module's packages, those aside that have tests alone.
func packages(t *testing.T) []string {
	names, err := filepath.Glob("../*/*.go")
	if err != nil {
		t.Fatal(err)
	}
	var out []string
	for _, name := range names {
		if !strings.HasSuffix(name, "_test.go") {
			out = append(out, module+"/"+filepath.Base(filepath.Dir(name)))
		}
	}
	return slices.Compact(out)
}

func TestProductsAreRoundedByThemselves(t *testing.T) {
	r := newReader()
	paths := packages(t)
	if !slices.Contains(paths, module+"/cplx") {
		t.Fatal("the packages aren't found")
	}
	for _, path := range paths {
		if _, err := r.Import(path); err != nil {
			t.Fatal(err)
		}
		for _, fault := range r.faults(path) {
			t.Error(fault)
		}
	}
}

func TestFaultsAreFound(t *testing.T) {
	for _, c := range []struct {
		body  string
		count int
	}{
		{"return complex(float64(x*y) + x, float64((x*y)) - y)", 0},
		{"return complex(2 * 0.1, x / y)", 0},
		{"n := 3; n *= 2; return complex(float64(n * n), 0)", 0},
		{"return complex(x*y + x, 0)", 1},
		{"return complex(x*y, y*x)", 2},
		{"return complex(float64(x*y + x), 0)", 1},
		{"return complex(float64(float64(x*y) * x * y), 0)", 1},
		{"z := x; z *= y; return complex(z, 0)", 1},
		{"z := x; z /= y; return complex(z, 0)", 1},
		{"z := float32(x); return complex(float64(z * z), float64(float32(z * z)))", 0},
		{"z := complex(x, y); return z * z", 1},
		{"z := complex(x, y); return z / 2", 1},
		{"z := complex(x, y); return z + z - 1", 0},
	} {
		r := newReader()
		f, err := parser.ParseFile(r.set, "given.go", "package given\nfunc F(x, y float64) complex128 { "+c.body+" }", 0)
		if err != nil {
			t.Fatal(err)
		}
		if _, err := r.check("given", []*ast.File{f}); err != nil {
			t.Fatal(err)
		}
		if got := r.faults("given"); len(got) != c.count {
			t.Errorf("%s: %q, want %d faults", c.body, got, c.count)
		}
	}
}
