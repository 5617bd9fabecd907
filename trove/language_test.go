package trove_test

import (
	"bytes"
	"go/format"
	"go/parser"
	"go/token"
	"io/fs"
	"os"
	"path/filepath"
	"strconv"
	"strings"
	"testing"
)

const allowedImports = " bytes cmp errors iter maps math math/big math/bits slices sort strconv strings sync sync/atomic unicode unicode/utf8 "

// programFiles are the Go files of the program, without tests.
func programFiles(t *testing.T) []string {
	t.Helper()
	var files []string
	err := filepath.WalkDir("..", func(path string, d fs.DirEntry, err error) error {
		if err == nil && d.IsDir() && d.Name() == "sharedtests" {
			return filepath.SkipDir
		}
		if strings.HasSuffix(path, ".go") && !strings.HasSuffix(path, "_test.go") {
			files = append(files, path)
		}
		return err
	})
	if err != nil || len(files) == 0 {
		t.Fatalf("no files of the program are found: %v", err)
	}
	return files
}

func TestTheProgramKeepsToItsLibrary(t *testing.T) {
	for _, path := range programFiles(t) {
		file, err := parser.ParseFile(token.NewFileSet(), path, nil, parser.ImportsOnly)
		if err != nil {
			t.Fatal(err)
		}
		for _, x := range file.Imports {
			name, _ := strconv.Unquote(x.Path.Value)
			if !strings.HasPrefix(name, "trove/") && !strings.Contains(allowedImports, " "+name+" ") {
				t.Errorf("%s imports %s", path, name)
			}
		}
	}
}

func TestTheProgramIsLaidOutByGofmt(t *testing.T) {
	for _, path := range programFiles(t) {
		text, err := os.ReadFile(path)
		if err != nil {
			t.Fatal(err)
		}
		if laidOut, err := format.Source(text); err != nil || !bytes.Equal(laidOut, text) {
			t.Errorf("%s is not laid out by gofmt (%v)", path, err)
		}
	}
}
