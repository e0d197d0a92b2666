package prompt_test

import (
	"bytes"
	"go/ast"
	"go/format"
	"go/parser"
	"go/token"
	"os"
	"path/filepath"
	"strings"
	"testing"
)

// programFiles are the Go files of the program, without tests and without what .ci/run lays beside it.
func programFiles(t *testing.T) []string {
	t.Helper()
	paths, err := filepath.Glob("../*/*.go")
	if err != nil {
		t.Fatal(err)
	}
	var files []string
	for _, path := range paths {
		if !strings.HasSuffix(path, "_test.go") {
			files = append(files, path)
		}
	}
	if len(files) < 2 {
		t.Fatalf("the program's files are missing: %v", files)
	}
	return files
}

// outside names what a node is, if it is none of the program's language.
func outside(n ast.Node) string {
	switch n := n.(type) {
	case *ast.GoStmt, *ast.SendStmt, *ast.SelectStmt, *ast.ChanType, *ast.CommClause:
		return "goroutine or channel"
	case *ast.DeferStmt:
		return "defer"
	case *ast.MapType:
		return "map"
	case *ast.InterfaceType:
		return "interface"
	case *ast.FuncLit:
		return "closure"
	case *ast.FuncType:
		if n.TypeParams != nil {
			return "generics"
		}
	case *ast.TypeSpec:
		if n.TypeParams != nil {
			return "generics"
		}
	case *ast.Ident:
		switch n.Name {
		case "any", "error", "float32", "float64", "complex64", "complex128", "panic", "recover", "cap":
			return n.Name
		}
	case *ast.BasicLit:
		if n.Kind == token.FLOAT || n.Kind == token.IMAG {
			return "float"
		}
	}
	return ""
}

// areTables tells whether all variables of a declaration are arrays that are written out.
func areTables(declared *ast.GenDecl) bool {
	for _, spec := range declared.Specs {
		for _, value := range spec.(*ast.ValueSpec).Values {
			literal, is := value.(*ast.CompositeLit)
			if !is {
				return false
			}
			if array, is := literal.Type.(*ast.ArrayType); !is || array.Len == nil {
				return false
			}
		}
		if len(spec.(*ast.ValueSpec).Values) == 0 {
			return false
		}
	}
	return true
}

func TestLanguage(t *testing.T) {
	for _, path := range programFiles(t) {
		source, err := os.ReadFile(path)
		if err != nil {
			t.Fatal(err)
		}
		if laid, err := format.Source(source); err != nil || !bytes.Equal(laid, source) {
			t.Errorf("%s is not laid out as gofmt does (%v)", path, err)
		}
		if strings.Contains(string(source), "//go:") {
			t.Errorf("%s has a //go: line", path)
		}
		files := token.NewFileSet()
		file, err := parser.ParseFile(files, path, source, 0)
		if err != nil {
			t.Fatal(err)
		}
		for _, i := range file.Imports {
			if i.Path.Value != `"strconv"` && !strings.HasPrefix(i.Path.Value, `"prompt/`) {
				t.Errorf("%s imports %s", path, i.Path.Value)
			}
		}
		ast.Inspect(file, func(n ast.Node) bool {
			if what := outside(n); what != "" {
				t.Errorf("%s: %s", files.Position(n.Pos()), what)
			}
			if f, is := n.(*ast.FuncDecl); is {
				lines := files.Position(f.End()).Line - files.Position(f.Pos()).Line + 1
				if lines > 45 {
					t.Errorf("%s: %s has %d lines", files.Position(n.Pos()), f.Name.Name, lines)
				}
			}
			return true
		})
		for _, d := range file.Decls {
			if g, is := d.(*ast.GenDecl); is && g.Tok == token.VAR && !areTables(g) {
				t.Errorf("%s: a variable of a package that is no table", files.Position(d.Pos()))
			}
		}
	}
}
