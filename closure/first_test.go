package closure

import (
	"testing"

	"dormouse/api"
	"dormouse/head"
)

// cut is a file that ends too early: ErrRange.
func cut(name string) api.File { return api.File{Name: name} }

// P15.1: of the steps of one name the first one that fails counts.
func TestFirstOfOneName(t *testing.T) {
	// Step 2 is ahead of step 3: a root that is no program and can't be parsed.
	lib := file(t, head.Lib, "a")
	lib.Bytes = lib.Bytes[:200]
	fails(t, "2 ahead of 3", "a", []api.File{lib}, api.ErrRange)
	// Step 3 is ahead of step 4: a root that is no program and needs too much.
	nine := graph(t, "x, a b c d e f g h i")
	fails(t, "3 ahead of 4", "a", nine, api.ErrForm)
	fails(t, "3 ahead of 4, a library", "a", append(graph(t, "a b c d e f g h"), file(t, head.Exe, "b", "i")), api.ErrForm)
	// Step 2 is ahead of step 4.
	prog := file(t, head.Exe, "a", "b", "c", "d", "e", "f", "g", "h", "i")
	prog.Bytes = prog.Bytes[:300]
	fails(t, "2 ahead of 4", "a", []api.File{prog}, api.ErrRange)
}

// P15.1: of two names the one that is ahead in the list counts.
func TestFirstOfTwoNames(t *testing.T) {
	two := graph(t, "a b c")
	prog := func(name string) api.File { return file(t, head.Exe, name) }
	fails(t, "missing, missing", "a", two, api.ErrMissing)
	fails(t, "missing ahead of cut", "a", append(two[:1:1], cut("c")), api.ErrMissing)
	fails(t, "cut ahead of missing", "a", append(two[:1:1], cut("b")), api.ErrRange)
	fails(t, "cut ahead of bad", "a", append(two[:1:1], bad("c"), cut("b")), api.ErrRange)
	fails(t, "bad ahead of cut", "a", append(two[:1:1], cut("c"), bad("b")), api.ErrForm)
	fails(t, "program ahead of missing", "a", append(two[:1:1], prog("b")), api.ErrForm)
	fails(t, "missing ahead of program", "a", append(two[:1:1], prog("c")), api.ErrMissing)
	fails(t, "program ahead of cut", "a", append(two[:1:1], cut("c"), prog("b")), api.ErrForm)
	fails(t, "cut ahead of program", "a", append(two[:1:1], prog("c"), cut("b")), api.ErrRange)
	// The root's library is ahead of a library's.
	three := graph(t, "a b c, b d")
	fails(t, "c ahead of d", "a", append(three[:2:2], cut("d")), api.ErrMissing)
	fails(t, "c ahead of d, cut", "a", append(three[:2:2], cut("c"), bad("d")), api.ErrRange)
	// A library is parsed though the name of another is missing behind it.
	fails(t, "the root is a library", "b", append(two[:1:1], file(t, head.Lib, "b", "x")), api.ErrForm)
}

// P15.1: a name is processed whole before the next one is begun.
func TestSizeAndOthers(t *testing.T) {
	// None of the names that the root needs has a file.
	fails(t, "size ahead of missing", "a", graph(t, "a b c d e f g h i"), api.ErrSize)
	fails(t, "size ahead of bad", "a", append(graph(t, "a b c d e f g h i"), bad("b"), cut("c")), api.ErrSize)
	fails(t, "size of b ahead of a missing c", "a", graph(t, "a b c d e f g h, b i"), api.ErrSize)
	fails(t, "missing b ahead of size of c", "a", graph(t, "a b c d e f g h, c i"), api.ErrMissing)
	fails(t, "cut b ahead of size of c", "a", append(graph(t, "a b c d e f g h, c i"), cut("b")), api.ErrRange)
	fails(t, "size of c ahead of a cut d", "a", append(graph(t, "a b c d e f g h, b, c i"), cut("d")), api.ErrSize)
}

// P15.1: any other error is ahead of ErrCycle.
func TestAheadOfCycle(t *testing.T) {
	fails(t, "missing", "a", graph(t, "a b c, b b"), api.ErrMissing)
	fails(t, "the root needs itself, missing", "a", graph(t, "a a b"), api.ErrMissing)
	fails(t, "cut", "a", append(graph(t, "a b c, b b"), cut("c")), api.ErrRange)
	fails(t, "bad", "a", append(graph(t, "a a b"), bad("b")), api.ErrForm)
	fails(t, "a program", "a", append(graph(t, "a b c, b b"), file(t, head.Exe, "c")), api.ErrForm)
	fails(t, "size", "a", graph(t, "a a b c d e f g h i, b b"), api.ErrSize)
	fails(t, "size, at the last", "a", graph(t, "a b, b c b, c d, d e, e f, f g, g h, h i"), api.ErrSize)
	fails(t, "a library that needs itself as the root", "b", graph(t, "a b, b b"), api.ErrForm)
	fails(t, "a ring and a missing one behind it", "a", graph(t, "a b, b c, c b d"), api.ErrMissing)
}

// P15.1: units that need one another round.
func TestCycle(t *testing.T) {
	for _, text := range []string{
		"a a",
		"a a a",
		"a a b, b",
		"a b a, b",
		"a b, b a",
		"a b, b b",
		"a b c, b, c c",
		"a b, b c, c a",
		"a b c, b c, c b",
		"a b, b c, c b",
		"a b, b c, c d, d b",
		"a b, b c, c d, d c",
		"a b, b c, c d, d d",
		"a b c, b d, c e, d, e c",
		"a b c, b d, c d, d a",
		"a b c, b d, c e, d e, e d",
		"a b, b c d, c, d e, e b",
		"a b, b c, c d, d e, e f, f g, g h, h a",
		"a b, b c, c d, d e, e f, f g, g h, h g",
		"a b c d e f g h, b, c, d, e, f, g, h b h",
		"a b, b a c, c a b",
	} {
		fails(t, text, "a", graph(t, text), api.ErrCycle)
	}
}

// P15.1: a unit that is needed over two ways is none in a cycle.
func TestNoCycle(t *testing.T) {
	orders(t, "a", graph(t, "a b c, b d, c d, d"), "a b c d")
	orders(t, "a", graph(t, "a b c d, b c d, c d, d"), "a b c d")
	orders(t, "a", graph(t, "a b d, b c, c d, d e, e"), "a b d c e")
	orders(t, "a", graph(t, "a d c b, b c d, c d, d"), "a d c b")
	orders(t, "a", graph(t, "a b c, b d e, c d e, d f, e f, f g h, g h, h"), "a b c d e f g h")
	// A ring that nothing in the list needs.
	orders(t, "a", graph(t, "a b, b, c d, d c, e e, f a"), "a b")
	// A ring in a file that isn't the first of its name.
	orders(t, "a", append(graph(t, "a b, b"), file(t, head.Lib, "b", "b"), file(t, head.Exe, "a", "a")), "a b")
}
