package sample_test

import (
	"go/parser"
	"go/token"
	"path/filepath"
	"slices"
	"strconv"
	"strings"
	"testing"
)

// allowed: may a file of the program import it?
func allowed(path string) bool {
	list := []string{
		"bytes", "cmp", "container/heap", "errors", "iter", "maps", "math", "math/bits", "slices", "sort",
		"strconv", "strings", "sync", "sync/atomic", "unicode", "unicode/utf8",
	}
	return slices.Contains(list, path) || strings.HasPrefix(path, "guipure/")
}

// foreign: isn't a folder one of the project's, but one that a check laid beside?
func foreign(folder string) bool {
	return folder == "form" || folder == "try" || strings.HasPrefix(folder, "guipure")
}

// The program is built of the project's own packages and few of the library's; tests may import all.
func TestImports(t *testing.T) {
	files, err := filepath.Glob("../*/*.go")
	if err != nil {
		t.Fatal(err)
	}
	many := 0
	for _, file := range files {
		if strings.HasSuffix(file, "_test.go") || foreign(filepath.Base(filepath.Dir(file))) {
			continue
		}
		f, err := parser.ParseFile(token.NewFileSet(), file, nil, parser.ImportsOnly)
		if err != nil {
			t.Fatal(err)
		}
		for _, i := range f.Imports {
			if path, err := strconv.Unquote(i.Path.Value); err != nil || !allowed(path) {
				t.Errorf("%s imports %s", file, i.Path.Value)
			}
		}
		many++
	}
	if many < 31 { // api's, and one at least of each layer
		t.Errorf("just %d files", many)
	}
}
