// Package language_test holds the layers against the rules of shared/LANGUAGE.md that can be told from their text alone.
package language_test

import (
	"bytes"
	"go/ast"
	"go/format"
	"go/parser"
	"go/token"
	"os"
	"path/filepath"
	"slices"
	"strings"
	"testing"
)

// layers are named one by one: beside them there may lie tests that are not the program's.
// (Package sample is none, but holds to the same rules; another one is to be added.)
var layers = []string{
	"api", "prim", "bitmap", "crc", "frame", "scan", "value", "cell", "rel", "catalog", "row", "chunk", "image", "event",
	"fit", "record", "encode", "order", "decode", "spell", "wire", "session", "table", "total", "filter", "bench",
	"sample",
}

// library are the packages that may be imported, beside the program's own.
var library = []string{
	"bytes", "cmp", "container/heap", "errors", "iter", "maps", "math", "math/bits", "slices", "sort", "strconv", "strings",
	"sync", "sync/atomic", "unicode", "unicode/utf8",
}

const (
	mostLines    = 60  // of a function
	mostLiterals = 250 // of a table at package level
)

// own: is it a package of the program?
func own(path string) bool {
	name, ok := strings.CutPrefix(path, "lacuna/")
	return ok && slices.Contains(layers, name)
}

// faults are what is wrong with a file.
func faults(src []byte) []string {
	set := token.NewFileSet()
	f, err := parser.ParseFile(set, "file.go", src, parser.ParseComments)
	if err != nil {
		return []string{err.Error()}
	}
	var l []string
	for _, s := range f.Imports {
		if path := strings.Trim(s.Path.Value, `"`); !own(path) && !slices.Contains(library, path) {
			l = append(l, "import "+path)
		}
	}
	for _, g := range f.Comments {
		for _, c := range g.List {
			if strings.HasPrefix(c.Text, "//go:") || strings.HasPrefix(c.Text, "// +build") {
				l = append(l, c.Text)
			}
		}
	}
	for _, d := range f.Decls {
		l = append(l, declared(set, d)...)
	}
	if b, err := format.Source(src); err != nil || !bytes.Equal(b, src) {
		l = append(l, "layout")
	}
	return l
}

// declared is what is wrong with what stands at package level.
func declared(set *token.FileSet, d ast.Decl) []string {
	var l []string
	switch x := d.(type) {
	case *ast.FuncDecl:
		if set.Position(x.End()).Line-set.Position(x.Pos()).Line+1 > mostLines {
			l = append(l, "long function "+x.Name.Name)
		}
	case *ast.GenDecl:
		for _, s := range x.Specs {
			v, ok := s.(*ast.ValueSpec)
			if !ok || x.Tok != token.VAR {
				continue
			}
			if len(v.Values) != len(v.Names) {
				l = append(l, "variable without a value of its own "+v.Names[0].Name)
			}
			for _, e := range v.Values {
				l = append(l, started(v.Names[0].Name, e)...)
			}
		}
	}
	return l
}

// started is what is wrong with a value with which a variable at package level starts.
func started(name string, v ast.Expr) []string {
	var l []string
	if b, ok := v.(*ast.BasicLit); ok && b.Kind == token.STRING {
		l = append(l, "text that is no constant "+name)
	}
	if c, ok := v.(*ast.CallExpr); ok && newError(c) {
		return nil
	}
	literals := 0
	ast.Inspect(v, func(n ast.Node) bool {
		switch x := n.(type) {
		case *ast.CallExpr:
			l = append(l, "call in "+name)
		case *ast.FuncType:
			l = append(l, "function in "+name)
		case *ast.MapType:
			l = append(l, "map in "+name)
		case *ast.UnaryExpr:
			if x.Op == token.AND {
				l = append(l, "pointer in "+name)
			}
		case *ast.BasicLit:
			literals++
			if x.Kind == token.FLOAT || x.Kind == token.IMAG {
				l = append(l, "float in "+name)
			}
		}
		return true
	})
	if literals > mostLiterals {
		l = append(l, "great table "+name)
	}
	return l
}

// newError: is it errors.New of one text?
func newError(c *ast.CallExpr) bool {
	f, ok := c.Fun.(*ast.SelectorExpr)
	if !ok || len(c.Args) != 1 {
		return false
	}
	p, ok := f.X.(*ast.Ident)
	b, text := c.Args[0].(*ast.BasicLit)
	return ok && p.Name == "errors" && f.Sel.Name == "New" && text && b.Kind == token.STRING
}

func TestLayers(t *testing.T) {
	for _, layer := range layers {
		all, err := os.ReadDir(filepath.Join("..", layer))
		if err != nil {
			t.Fatal(err)
		}
		for _, x := range all {
			file := filepath.Join("..", layer, x.Name())
			if x.IsDir() {
				continue
			}
			if filepath.Ext(file) != ".go" {
				t.Errorf("%s is no Go file", file)
				continue
			}
			if strings.HasSuffix(file, "_test.go") {
				continue
			}
			src, err := os.ReadFile(file)
			if err != nil {
				t.Fatal(err)
			}
			for _, fault := range faults(src) {
				t.Errorf("%s: %s", file, fault)
			}
		}
	}
}

func TestFaults(t *testing.T) {
	long := "package x\n\nfunc f() {\n" + strings.Repeat("\tf()\n", mostLines-2) + "}\n"
	for _, x := range []struct{ src, fault string }{
		{"package x\n", ""},
		{"package x\n\nimport (\n\t\"slices\"\n\n\t\"lacuna/api\"\n)\n", ""},
		{"package x\n\nimport \"fmt\"\n", "import fmt"},
		{"package x\n\nimport \"unsafe\"\n", "import unsafe"},
		{"package x\n\nimport \"lacuna/other\"\n", "import lacuna/other"},
		{"package x\n\n//go:noinline\nfunc f() {}\n", "//go:noinline"},
		{"//go:build linux\n\npackage x\n", "//go:build linux"},
		{"package x\n\nvar n int\n", "variable without a value of its own n"},
		{"package x\n\nvar n = 1\n", ""},
		{"package x\n\nvar s = \"a\"\n", "text that is no constant s"},
		{"package x\n\nvar l = [...]string{1: \"a\", 2: \"b\"}\n", ""},
		{"package x\n\nvar l = []int{" + strings.Repeat("1, ", mostLiterals-1) + "1}\n", ""},
		{"package x\n\nvar l = []int{" + strings.Repeat("1, ", mostLiterals) + "1}\n", "great table l"},
		{"package x\n\nvar e = errors.New(\"a\")\n", ""},
		{"package x\n\nvar e = errors.New(\"a\" + f())\n", "call in e, call in e"},
		{"package x\n\nvar n = f(1)\n", "call in n"},
		{"package x\n\nvar f = func() {}\n", "function in f"},
		{"package x\n\nvar m = map[int]int{}\n", "map in m"},
		{"package x\n\nvar p = &n\n", "pointer in p"},
		{"package x\n\nvar l = []float64{1.5}\n", "float in l"},
		{"package x\nfunc f( ) {}\n", "layout"},
		{long, ""},
		{strings.Replace(long, "\tf()\n", "\tf()\n\tf()\n", 1), "long function f"},
	} {
		if l := strings.Join(faults([]byte(x.src)), ", "); l != x.fault {
			t.Errorf("%q: %q, not %q", x.src, l, x.fault)
		}
	}
}
