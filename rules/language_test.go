// Package rules tests what holds for all packages of the program alike: the document's numbers, the calls' signatures, and the language that the program keeps to.
package rules

import (
	"bytes"
	"go/ast"
	"go/format"
	"go/parser"
	"go/token"
	"io/fs"
	"os"
	"path/filepath"
	"slices"
	"strconv"
	"strings"
	"testing"
)

const root = ".."

// layers are the packages in the map's order, with step, show, attr, kind, needs, begin and room, which several of them lean on, and behind them spell, sample, kept, fit and told, which are for tests: each may import those ahead of it.
func layers() []string {
	return strings.Fields("api wire num step shape view show pb schema attr kind graph needs infer begin elem move reduce linear conv sem fold fuse layout passes live room arena tile sched load runner spell sample kept fit told")
}

// library are the packages of Go's library that the program may import.
func library() []string {
	return strings.Fields("bytes cmp container/heap errors iter maps math math/bits slices sort strconv strings sync sync/atomic unicode unicode/utf8")
}

type source struct {
	path, layer string // layer: the folder below the root
	text        []byte
	set         *token.FileSet
	file        *ast.File
}

// sources are the program's Go files, but for tests.
func sources(t *testing.T) []source {
	t.Helper()
	var l []source
	err := filepath.WalkDir(root, func(path string, d fs.DirEntry, err error) error {
		if err != nil {
			return err
		}
		if d.IsDir() && (d.Name() == "sharedtests" || strings.HasPrefix(d.Name(), ".") && path != root) {
			return filepath.SkipDir
		}
		if d.IsDir() || !strings.HasSuffix(path, ".go") || strings.HasSuffix(path, "_test.go") {
			return nil
		}
		s := source{path: path, layer: filepath.Base(filepath.Dir(path)), set: token.NewFileSet()}
		if s.text, err = os.ReadFile(path); err != nil {
			return err
		}
		s.file, err = parser.ParseFile(s.set, path, s.text, parser.ParseComments)
		l = append(l, s)
		return err
	})
	if err != nil || len(l) < len(layers()) {
		t.Fatalf("%d files read: %v", len(l), err)
	}
	return l
}

func TestImports(t *testing.T) {
	order := layers()
	for _, s := range sources(t) {
		for _, im := range s.file.Imports {
			path, _ := strconv.Unquote(im.Path.Value)
			own, ok := strings.CutPrefix(path, "mandrel/")
			if !ok {
				if !slices.Contains(library(), path) {
					t.Errorf("%s: imports %s", s.path, path)
				}
				continue
			}
			at, of := slices.Index(order, s.layer), slices.Index(order, own)
			if of < 0 || of >= at {
				t.Errorf("%s: imports %s, which is not below it", s.path, own)
			}
		}
	}
}

func TestLayoutOfFiles(t *testing.T) {
	for _, s := range sources(t) {
		if b, err := format.Source(s.text); err != nil || !bytes.Equal(b, s.text) {
			t.Errorf("%s: not in gofmt's layout", s.path)
		}
		for _, line := range strings.Split(string(s.text), "\n") {
			if strings.HasPrefix(line, "//go:") || strings.HasPrefix(line, "// +build") {
				t.Errorf("%s: %s", s.path, line)
			}
		}
		if s.layer == "form" || s.layer == "try" || strings.HasPrefix(s.layer, "mandrel") {
			t.Errorf("%s: a folder may not have that name", s.path)
		}
		for _, d := range s.file.Decls {
			f, ok := d.(*ast.FuncDecl)
			if ok && s.set.Position(f.End()).Line-s.set.Position(f.Pos()).Line >= 60 {
				t.Errorf("%s: %s is long", s.path, f.Name.Name)
			}
		}
	}
}

func TestPackageLevelVariables(t *testing.T) {
	for _, s := range sources(t) {
		for _, d := range s.file.Decls {
			g, ok := d.(*ast.GenDecl)
			if !ok || g.Tok != token.VAR {
				continue
			}
			for _, spec := range g.Specs {
				v := spec.(*ast.ValueSpec)
				if len(v.Values) != len(v.Names) || slices.ContainsFunc(v.Values, notWrittenOut) {
					t.Errorf("%s: %s is no short table and no error", s.path, v.Names[0].Name)
				}
			}
		}
	}
}

// notWrittenOut tells of a starting value whether it is something other than a literal (but a map) or an error.
func notWrittenOut(e ast.Expr) bool {
	switch x := e.(type) {
	case *ast.BasicLit:
		return x.Kind == token.STRING || x.Kind == token.FLOAT
	case *ast.CompositeLit:
		_, isMap := x.Type.(*ast.MapType)
		return isMap
	case *ast.CallExpr:
		f, ok := x.Fun.(*ast.SelectorExpr)
		return !ok || f.Sel.Name != "New"
	}
	return true
}
