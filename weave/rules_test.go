package weave_test

import (
	"bytes"
	"go/ast"
	"go/format"
	"go/parser"
	"go/token"
	"os"
	"path/filepath"
	"slices"
	"strconv"
	"strings"
	"testing"
)

// These tests hold the program's files against those rules of LANGUAGE.md that its text shows.

// sourceFile is a file of the program, and what it says.
type sourceFile struct {
	path   string
	bytes  []byte
	syntax *ast.File
	places *token.FileSet
}

// mayBeImported are the library's packages that rule 1 names.
var mayBeImported = []string{
	"bytes", "cmp", "container/heap", "errors", "iter", "maps", "math", "math/big", "math/bits", "slices", "sort",
	"strconv", "strings", "sync", "sync/atomic", "unicode", "unicode/utf8",
}

// programFiles reads all Go files of the program, which is this package alone, but its tests.
func programFiles(t *testing.T) []sourceFile {
	t.Helper()
	var files []sourceFile
	paths, _ := filepath.Glob("*.go")
	for _, path := range paths {
		if strings.HasSuffix(path, "_test.go") {
			continue
		}
		text, err := os.ReadFile(path)
		if err != nil {
			t.Fatal(err)
		}
		places := token.NewFileSet()
		syntax, err := parser.ParseFile(places, path, text, parser.ParseComments)
		if err != nil {
			t.Fatal(err)
		}
		files = append(files, sourceFile{path, text, syntax, places})
	}
	if len(files) == 0 {
		t.Fatal("the program has no files")
	}
	return files
}

func TestImports(t *testing.T) {
	for _, f := range programFiles(t) {
		for _, spec := range f.syntax.Imports {
			path, _ := strconv.Unquote(spec.Path.Value)
			if !slices.Contains(mayBeImported, path) {
				t.Errorf("%s imports %s", f.path, path)
			}
		}
	}
}

func TestLayoutAndLength(t *testing.T) {
	for _, f := range programFiles(t) {
		if laid, err := format.Source(f.bytes); err != nil || !bytes.Equal(laid, f.bytes) {
			t.Errorf("%s is not laid out as gofmt does it: %v", f.path, err)
		}
		for _, d := range f.syntax.Decls {
			from, to := f.places.Position(d.Pos()).Line, f.places.Position(d.End()).Line
			if _, ok := d.(*ast.FuncDecl); ok && to-from >= 60 {
				t.Errorf("%s: the function at line %d has %d lines", f.path, from, to-from+1)
			}
		}
	}
}

// TestNothingKeptAtPackageLevel: rooms have nothing to do with one another, so the program needs no variable there.
func TestNothingKeptAtPackageLevel(t *testing.T) {
	for _, f := range programFiles(t) {
		for _, d := range f.syntax.Decls {
			if g, ok := d.(*ast.GenDecl); ok && g.Tok == token.VAR {
				t.Errorf("%s: a variable at package level, at line %d", f.path, f.places.Position(d.Pos()).Line)
			}
			if fn, ok := d.(*ast.FuncDecl); ok && fn.Recv == nil && fn.Name.Name == "init" {
				t.Errorf("%s has an init", f.path)
			}
		}
	}
}

func TestNoPrintingAndNoDirectives(t *testing.T) {
	for _, f := range programFiles(t) {
		for _, group := range f.syntax.Comments {
			for _, c := range group.List {
				if strings.HasPrefix(c.Text, "//go:") || strings.HasPrefix(c.Text, "// +build") {
					t.Errorf("%s: %s", f.path, c.Text)
				}
			}
		}
		ast.Inspect(f.syntax, func(n ast.Node) bool {
			if name, ok := n.(*ast.Ident); ok && (name.Name == "print" || name.Name == "println") {
				t.Errorf("%s prints, at line %d", f.path, f.places.Position(n.Pos()).Line)
			}
			return true
		})
	}
}

// TestOnlyGoFiles: beside the Go files a package has no others.
func TestOnlyGoFiles(t *testing.T) {
	entries, err := os.ReadDir(".")
	if err != nil {
		t.Fatal(err)
	}
	for _, entry := range entries {
		if !strings.HasSuffix(entry.Name(), ".go") {
			t.Errorf("%s is no Go file", entry.Name())
		}
	}
}
