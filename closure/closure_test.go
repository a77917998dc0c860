package closure

import (
	"bytes"
	"reflect"
	"slices"
	"strings"
	"testing"

	"dormouse/api"
	"dormouse/head"
	"dormouse/image"
)

// build is the file of a Spec.
func build(t *testing.T, s image.Spec) []byte {
	t.Helper()
	b, e := image.Build(s)
	if e != api.OK {
		t.Fatalf("Build: %d", e)
	}
	return b
}

// file is one that needs names; its code tells it from others.
func file(t *testing.T, kind int, name string, needed ...string) api.File {
	t.Helper()
	s := image.Spec{Kind: kind, Soname: name, Needed: needed, Code: []byte("code of " + name)}
	return api.File{Name: name, Bytes: build(t, s)}
}

// bad is a file that can't be parsed: it is no ELF file.
func bad(name string) api.File {
	return api.File{Name: name, Bytes: make([]byte, 100)}
}

// graph are the files of a text like "a b c, b c": a needs b and c, b needs c. The first one is a program, the others are libraries.
func graph(t *testing.T, text string) []api.File {
	t.Helper()
	var files []api.File
	for k, part := range strings.Split(text, ",") {
		words := strings.Fields(part)
		kind := head.Lib
		if k == 0 {
			kind = head.Exe
		}
		files = append(files, file(t, kind, words[0], words[1:]...))
	}
	return files
}

// names are those of units, as one text.
func names(units []Unit) string {
	var l []string
	for _, u := range units {
		l = append(l, u.Name)
	}
	return strings.Join(l, " ")
}

// orders fails the test unless Order answers units of these names, each with what its file says.
func orders(t *testing.T, root string, files []api.File, want string) {
	t.Helper()
	units, e := Order(root, files)
	if e != api.OK || names(units) != want {
		t.Fatalf("%q: %q %d, not %q", root, names(units), e, want)
	}
	for _, u := range units {
		k := slices.IndexFunc(files, func(f api.File) bool { return f.Name == u.Name })
		m, e := image.Parse(files[k].Bytes)
		if e != api.OK || !reflect.DeepEqual(u.Image, m) {
			t.Errorf("%q: not the image of its file", u.Name)
		}
	}
}

// fails fails the test unless Order answers this error, and no units.
func fails(t *testing.T, what, root string, files []api.File, want api.Errno) {
	t.Helper()
	units, e := Order(root, files)
	if e != want || units != nil {
		t.Errorf("%s: %q %d, not %d", what, names(units), e, want)
	}
}

// P15.1: the examples of the chapter.
func TestExamples(t *testing.T) {
	orders(t, "a", graph(t, "a b c, b c, c"), "a b c")
	fails(t, "a ring", "a", graph(t, "a b c, b c, c b"), api.ErrCycle)
	fails(t, "without c", "a", graph(t, "a b c, b c"), api.ErrMissing)
	fails(t, "a library", "b", graph(t, "a b c, b c, c"), api.ErrForm)
	fails(t, "itself", "a", graph(t, "a b, b b"), api.ErrCycle)
}

// P15.1: the list begins with the root, and holds names in the order in which they are come upon.
func TestOrder(t *testing.T) {
	for _, x := range []struct{ text, want string }{
		{"a", "a"},
		{"a, b, c b", "a"},
		{"a b, b", "a b"},
		{"a b c, b, c", "a b c"},
		{"a c b, b, c", "a c b"},
		{"a b c, b d, c e, d, e", "a b c d e"},
		{"a b c, c e, b d, e, d", "a b c d e"},
		{"a b c, b d, c d, d", "a b c d"},
		{"a b c, b d e, c f, d g, e g f, f, g", "a b c d e f g"},
		{"a b c, b e c d, c d, d, e", "a b c e d"},
		{"a b, b c, c d, d e, e f, f g, g h, h", "a b c d e f g h"},
		{"a b c d e f g h, b c d e f g h, c d e f g h, d e f g h, e f g h, f g h, g h, h", "a b c d e f g h"},
		{"a d, d c b, b, c b", "a d c b"},
		{"z y, y x, x w, w", "z y x w"},
	} {
		orders(t, x.text[:1], graph(t, x.text), x.want)
		// Where the files lie in their list does not matter.
		files := graph(t, x.text)
		slices.Reverse(files)
		orders(t, x.text[:1], files, x.want)
	}
}

// P15.1: a name that is needed more than once is in the list once.
func TestOnce(t *testing.T) {
	orders(t, "a", graph(t, "a b b, b"), "a b")
	orders(t, "a", graph(t, "a b c b, b c c, c"), "a b c")
	orders(t, "a", graph(t, "a b c, b d, c d, d"), "a b c d")
	orders(t, "a", graph(t, "a b c d, b d, c d, d"), "a b c d")
	fails(t, "twice and in a ring", "a", graph(t, "a b b, b c c, c b b"), api.ErrCycle)
}

// P15.1: names are all their bytes, and not what the files say of themselves.
func TestNames(t *testing.T) {
	long := strings.Repeat("lib", 200)
	files := []api.File{
		{Name: "", Bytes: build(t, image.Spec{Kind: head.Exe, Soname: "x", Needed: []string{"A", "a", "a ", long}})},
		{Name: "a ", Bytes: build(t, image.Spec{Kind: head.Lib, Soname: "A"})},
		{Name: "a", Bytes: build(t, image.Spec{Kind: head.Lib, Soname: "a "})},
		{Name: "A", Bytes: build(t, image.Spec{Kind: head.Lib})},
		{Name: long, Bytes: build(t, image.Spec{Kind: head.Lib, Soname: "x", Needed: []string{"\xff"}})},
		{Name: "\xff", Bytes: build(t, image.Spec{Kind: head.Lib, Soname: ""})},
	}
	orders(t, "", files, " A a a  "+long+" \xff")
	fails(t, "a Soname", "x", files, api.ErrMissing)
	fails(t, "a part of a name", long[1:], files, api.ErrMissing)
}

// P15.1: a root alone, whatever lies beside it.
func TestAlone(t *testing.T) {
	a := file(t, head.Exe, "a")
	orders(t, "a", []api.File{a}, "a")
	orders(t, "a", []api.File{bad("b"), a, bad("c"), {}, file(t, head.Exe, "d", "e")}, "a")
	orders(t, "a", []api.File{file(t, head.Lib, "b", "b"), a}, "a")
}

// P15.1, step 1: a name that no file has.
func TestMissing(t *testing.T) {
	fails(t, "nil", "a", nil, api.ErrMissing)
	fails(t, "nil, nameless", "", nil, api.ErrMissing)
	fails(t, "empty", "a", []api.File{}, api.ErrMissing)
	fails(t, "no root", "x", graph(t, "a b, b"), api.ErrMissing)
	fails(t, "no library", "a", graph(t, "a b"), api.ErrMissing)
	fails(t, "no library of a library", "a", graph(t, "a b, b c"), api.ErrMissing)
	fails(t, "the second library", "a", graph(t, "a b c, b"), api.ErrMissing)
	fails(t, "other letters", "a", graph(t, "a b, B"), api.ErrMissing)
}

// P15.1: of more files of one name the first one counts.
func TestFirst(t *testing.T) {
	two := graph(t, "a b, b c, c")
	orders(t, "a", append(two, file(t, head.Exe, "a"), file(t, head.Lib, "b"), bad("c"), bad("b")), "a b c")
	orders(t, "a", append([]api.File{file(t, head.Lib, "b"), file(t, head.Exe, "a", "c", "b")}, two...), "a c b")
	fails(t, "a bad root", "a", append([]api.File{bad("a")}, two...), api.ErrForm)
	fails(t, "a bad library", "a", append([]api.File{{Name: "c"}}, two...), api.ErrRange)
	fails(t, "a root that is a library", "a", append([]api.File{file(t, head.Lib, "a")}, two...), api.ErrForm)
	fails(t, "a library that is a program", "a", append([]api.File{file(t, head.Exe, "b")}, two...), api.ErrForm)
	fails(t, "a ring", "a", append([]api.File{file(t, head.Lib, "c", "b")}, two...), api.ErrCycle)
}

// wrong are files that can't be parsed, each with another error.
func wrong(t *testing.T, name string) []api.File {
	t.Helper()
	core := file(t, head.Lib, name)
	core.Bytes[16] = head.Core
	fix := image.Fix{Where: image.Data, Off: 1 << 20, Type: 8, Def: -1}
	local := image.Def{Name: "v", Where: image.Local}
	return []api.File{
		{Name: name},
		{Name: name, Bytes: file(t, head.Lib, name).Bytes[:63]},
		{Name: name, Bytes: file(t, head.Lib, name).Bytes[:200]},
		bad(name),
		core,
		{Name: name, Bytes: append(file(t, head.Lib, name).Bytes, make([]byte, api.MaxFile)...)},
		{Name: name, Bytes: build(t, image.Spec{Kind: head.Lib, Fixes: []image.Fix{fix}})},
		{Name: name, Bytes: build(t, image.Spec{Kind: head.Lib, Defs: []image.Def{local}})},
		{Name: name, Bytes: build(t, image.Spec{Kind: head.Lib, Needed: []string{""}})},
	}
}

// P15.1, step 2: the error of image.Parse, for the root and for libraries.
func TestParse(t *testing.T) {
	seen := map[api.Errno]bool{}
	for k, f := range wrong(t, "x") {
		_, want := image.Parse(f.Bytes)
		if want == api.OK {
			t.Fatalf("%d: no wrong file", k)
		}
		seen[want] = true
		fails(t, "the root", "x", []api.File{f}, want)
		fails(t, "a library", "a", append(graph(t, "a x"), f), want)
		fails(t, "the library of a library", "a", append(graph(t, "a b c, b, c x"), f), want)
		orders(t, "a", append(graph(t, "a b, b"), f), "a b")
	}
	for _, want := range []api.Errno{api.ErrRange, api.ErrForm, api.ErrSize, api.ErrMap} {
		if !seen[want] {
			t.Errorf("no file with the error %d", want)
		}
	}
}

// P15.1, step 3: the first one is a program, and all others are libraries.
func TestKind(t *testing.T) {
	lib, prog := file(t, head.Lib, "l"), file(t, head.Exe, "p")
	fails(t, "a library alone", "l", []api.File{lib}, api.ErrForm)
	fails(t, "a library with a library", "m", []api.File{file(t, head.Lib, "m", "l"), lib}, api.ErrForm)
	fails(t, "a program that is needed", "a", append(graph(t, "a p"), prog), api.ErrForm)
	fails(t, "a program that is needed by a library", "a", append(graph(t, "a b, b p"), prog), api.ErrForm)
	fails(t, "two programs", "a", append(graph(t, "a b p, b"), prog), api.ErrForm)
	orders(t, "p", append(graph(t, "a b p, b"), prog), "p")
}

// P15.1, step 4: 8 names, and a ninth.
func TestSize(t *testing.T) {
	orders(t, "a", graph(t, "a b c d e f g h, b, c, d, e, f, g, h"), "a b c d e f g h")
	fails(t, "nine of one", "a", graph(t, "a b c d e f g h i, b, c, d, e, f, g, h, i"), api.ErrSize)
	fails(t, "nine in a row", "a", graph(t, "a b, b c, c d, d e, e f, f g, g h, h i, i"), api.ErrSize)
	fails(t, "the ninth by the second", "a", graph(t, "a b c d e f g h, b i, c, d, e, f, g, h, i"), api.ErrSize)
	fails(t, "ten", "a", graph(t, "a b c d e, b f g h i j"), api.ErrSize)
	// A full list takes names that it contains.
	orders(t, "a", graph(t, "a b c d e f g h, b h g, c h, d, e h, f, g, h"), "a b c d e f g h")
	orders(t, "a", graph(t, "a b b c d e f g h h c, b, c, d, e, f, g, h"), "a b c d e f g h")
	fails(t, "the ninth behind one again", "a", graph(t, "a b c d e f g h b i, b, c, d, e, f, g, h"), api.ErrSize)
	// More files than names.
	orders(t, "a", graph(t, "a b, b, c d, d, e, f, g, h, i, j, k"), "a b")
}

// P15.1: what is passed in stays as it was, and what is answered is other memory.
func TestNewMemory(t *testing.T) {
	files := graph(t, "a b c, b c, c, d d")
	before := slices.Clone(files)
	for k := range before {
		before[k].Bytes = bytes.Clone(files[k].Bytes)
	}
	first, _ := Order("a", files)
	second, _ := Order("a", files)
	if !reflect.DeepEqual(files, before) || !reflect.DeepEqual(first, second) {
		t.Fatal("not as before")
	}
	for k := range first {
		u := &first[k]
		clear(u.Image.Bytes)
		clear(u.Image.Needed)
		clear(u.Image.Segs)
		u.Name = "changed"
	}
	third, _ := Order("a", files)
	if !reflect.DeepEqual(files, before) || !reflect.DeepEqual(second, third) {
		t.Error("a change of the answer changes something else")
	}
	for k := range files {
		clear(files[k].Bytes)
		files[k] = api.File{}
	}
	if !reflect.DeepEqual(second, third) || names(second) != "a b c" || second[0].Image.Bytes[0] != 127 {
		t.Error("a change of the files changes an answer")
	}
}
