package rules

import (
	"go/ast"
	"go/parser"
	"go/token"
	"path/filepath"
	"slices"
	"strconv"
	"strings"
	"testing"
)

// layers: which of the project's packages each layer may call, by the document's map.
func layers() map[string]string {
	return map[string]string{
		"api": "", "num": "api", "frame": "api num", "item": "api num", "ctx": "api", "prob": "api", "hash": "",
		"sketch": "api hash", "window": "api sketch", "rate": "api prob window", "heap": "api", "prio": "api",
		"policy": "api prob", "tail": "api heap", "disk": "api", "spool": "api num frame disk", "gather": "api num",
		"send": "api hash", "dedup": "api", "conf": "api prob policy",
		"agent": "api num frame item prob prio policy tail disk spool gather send conf",
		"world": "api disk gather dedup conf agent", "lab": "api frame item conf world",
	}
}

const library = "bytes cmp container/heap errors iter maps math math/bits slices sort strconv strings sync sync/atomic unicode unicode/utf8"

func has(words, word string) bool {
	return slices.Contains(strings.Fields(words), word)
}

// sources: the layers' files, parsed, with the folder of each; tests are none of them, nor is what lies beside the layers.
func sources(t *testing.T, visit func(folder string, f *ast.File)) {
	set := token.NewFileSet()
	for folder := range layers() {
		paths, err := filepath.Glob(filepath.Join("..", folder, "*.go"))
		if err != nil {
			t.Fatal(err)
		}
		for _, path := range paths {
			if strings.HasSuffix(path, "_test.go") {
				continue
			}
			f, err := parser.ParseFile(set, path, nil, parser.ParseComments)
			if err != nil {
				t.Fatal(err)
			}
			visit(folder, f)
		}
	}
}

func TestEachLayerIsThere(t *testing.T) {
	seen := map[string]int{}
	sources(t, func(folder string, f *ast.File) {
		seen[folder]++
		if f.Name.Name != folder {
			t.Errorf("folder %s holds package %s", folder, f.Name.Name)
		}
	})
	for name := range layers() {
		if seen[name] == 0 {
			t.Errorf("no package %s", name)
		}
	}
}

// A layer stands on those that the map names, and on the library as far as the language's rules let it (R5: no clock, no draws, no printing).
func TestImports(t *testing.T) {
	known := layers()
	sources(t, func(folder string, f *ast.File) {
		for _, im := range f.Imports {
			path, _ := strconv.Unquote(im.Path.Value)
			own, ours := strings.CutPrefix(path, "telemeter/")
			_, layer := known[own]
			switch {
			case !ours && !has(library, path):
				t.Errorf("%s imports %s", folder, path)
			case ours && layer && !has(known[folder], own):
				t.Errorf("%s calls %s, which the map does not name for it", folder, own)
			}
		}
	})
}

// outside: what the language's rules keep out, told as a word, or nothing.
func outside(n ast.Node) string {
	switch x := n.(type) {
	case *ast.Comment:
		if strings.HasPrefix(x.Text, "//go:") || strings.HasPrefix(x.Text, "// +build") {
			return x.Text
		}
	case *ast.FuncDecl:
		if x.Recv == nil && x.Name.Name == "init" {
			return "init"
		}
	case *ast.CallExpr:
		if f, ok := x.Fun.(*ast.Ident); ok && has("print println", f.Name) {
			return f.Name
		}
	case *ast.SelectorExpr:
		p, ok := x.X.(*ast.Ident)
		if ok && p.Name == "iter" && !has("Seq Seq2", x.Sel.Name) {
			return "iter." + x.Sel.Name
		}
		if ok && p.Name == "sync" && !has("Mutex RWMutex WaitGroup Once", x.Sel.Name) {
			return "sync." + x.Sel.Name
		}
	}
	return ""
}

func TestLanguage(t *testing.T) {
	sources(t, func(folder string, f *ast.File) {
		ast.Inspect(f, func(n ast.Node) bool {
			if n != nil && outside(n) != "" {
				t.Errorf("%s: %s", folder, outside(n))
			}
			return true
		})
		for _, group := range f.Comments {
			for _, c := range group.List {
				if outside(c) != "" {
					t.Errorf("%s: %s", folder, outside(c))
				}
			}
		}
	})
}
