package ground

import (
	"go/ast"
	"go/parser"
	"go/token"
	"path/filepath"
	"strings"
	"testing"
)

// functions of the layer, by their names.
func functions(t *testing.T) map[string]*ast.FuncDecl {
	files, err := filepath.Glob("*.go")
	if err != nil {
		t.Fatal(err)
	}
	found := map[string]*ast.FuncDecl{}
	for _, name := range files {
		if strings.HasSuffix(name, "_test.go") {
			continue
		}
		file, err := parser.ParseFile(token.NewFileSet(), name, nil, 0)
		if err != nil {
			t.Fatal(err)
		}
		for _, d := range file.Decls {
			if f, ok := d.(*ast.FuncDecl); ok {
				found[f.Name.Name] = f
			}
		}
	}
	return found
}

// handsClosures: does a function, by itself or by those of the layer that it
// names, hand a function literal to a call?
func handsClosures(all map[string]*ast.FuncDecl, name string, seen map[string]bool) bool {
	if seen[name] || all[name] == nil {
		return false
	}
	seen[name] = true
	found := false
	ast.Inspect(all[name].Body, func(n ast.Node) bool {
		switch x := n.(type) {
		case *ast.CallExpr:
			for _, arg := range x.Args {
				_, literal := arg.(*ast.FuncLit)
				found = found || literal
			}
		case *ast.Ident:
			found = handsClosures(all, x.Name, seen) || found
		}
		return true
	})
	return found
}

// DOC.md's Ways: what doesn't hold is looked for by closures, whatever is asked.
func TestWays(t *testing.T) {
	all := functions(t)
	for _, name := range []string{"Holds", "Solution", "Broken", "meets"} {
		if !handsClosures(all, name, map[string]bool{}) {
			t.Errorf("%s looks for nothing by closures", name)
		}
	}
}
