package rules

import (
	"bytes"
	"go/ast"
	"go/format"
	"go/parser"
	"go/token"
	"os"
	"path/filepath"
	"slices"
	"strconv"
	"strings"
	"testing"
)

// layers are all packages of the program, the lowest one first; each may call those ahead of it.
func layers() []string {
	return strings.Fields("api lists words nat zint rat ratext vec oneform tell mat lu fields mps model cons told shape ratio dual derive propag cutrow cgcut gmi pool queue branch cert vipr check prove solve")
}

// library is what the program may take of Go's library.
func library() []string {
	return strings.Fields("bytes cmp container/heap errors iter maps math math/bits slices sort strconv strings sync sync/atomic unicode unicode/utf8")
}

// program calls look for each file of the program.
func program(t *testing.T, look func(layer, path string, source []byte, set *token.FileSet, file *ast.File)) {
	t.Helper()
	for _, layer := range layers() {
		paths, _ := filepath.Glob(filepath.Join("..", layer, "*.go"))
		if len(paths) == 0 {
			t.Errorf("no package %s", layer)
		}
		for _, path := range paths {
			if strings.HasSuffix(path, "_test.go") {
				continue
			}
			source, err := os.ReadFile(path)
			if err != nil {
				t.Fatal(err)
			}
			set := token.NewFileSet()
			file, err := parser.ParseFile(set, path, source, parser.ParseComments)
			if err != nil {
				t.Fatal(err)
			}
			look(layer, path, source, set, file)
		}
	}
}

// A layer calls those below it, and the few packages of the library that the program may have.
func TestImports(t *testing.T) {
	program(t, func(layer, path string, source []byte, set *token.FileSet, file *ast.File) {
		below := layers()[:slices.Index(layers(), layer)]
		for _, i := range file.Imports {
			name, _ := strconv.Unquote(i.Path.Value)
			own, found := strings.CutPrefix(name, "cutwater/")
			if found && !slices.Contains(below, own) || !found && !slices.Contains(library(), name) {
				t.Errorf("%s imports %s", path, name)
			}
		}
	})
}

// Files have gofmt's layout and no directives; functions are short.
func TestLayout(t *testing.T) {
	program(t, func(layer, path string, source []byte, set *token.FileSet, file *ast.File) {
		if formatted, err := format.Source(source); err != nil || !bytes.Equal(formatted, source) {
			t.Errorf("%s isn't laid out by gofmt", path)
		}
		if bytes.Contains(source, []byte("//go:")) || bytes.Contains(source, []byte("// +build")) {
			t.Errorf("%s has a directive", path)
		}
		for _, d := range file.Decls {
			if f, ok := d.(*ast.FuncDecl); ok && set.Position(f.End()).Line-set.Position(f.Pos()).Line > 60 {
				t.Errorf("%s: %s is too long", path, f.Name.Name)
			}
		}
	})
}
