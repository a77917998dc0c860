package isa

import (
	"bytes"
	"encoding/binary"
	"math/rand"
	"slices"
	"strings"
	"testing"

	"dormouse/api"
)

// bytesOfAll are the words of instructions, as the document lays them.
func bytesOfAll(l ...Ins) []byte {
	var b []byte
	for _, i := range l {
		b = binary.LittleEndian.AppendUint64(b, plainWord(i))
	}
	return b
}

// assembles fails the test unless Code answers the words of these instructions.
func assembles(t *testing.T, text string, l ...Ins) {
	t.Helper()
	want := bytesOfAll(l...)
	if b, e, line := Code(text); !bytes.Equal(b, want) || e != api.OK || line != 0 {
		t.Fatalf("Code of %q: % x, %d, %d; want % x, 0, 0", short(text), b[:min(len(b), 80)], e, line, want[:min(len(want), 80)])
	}
}

// fails fails the test unless Code answers this error and line, and no bytes.
func fails(t *testing.T, text string, err api.Errno, at int) {
	t.Helper()
	if b, e, line := Code(text); len(b) != 0 || e != err || line != at {
		t.Fatalf("Code of %q: %d bytes, %d, %d; want none, %d, %d", short(text), len(b), e, line, err, at)
	}
}

// short is a text, cut off where it would fill the screen.
func short(s string) string { return s[:min(len(s), 80)] }

var (
	nop  = Ins{Op: OpNop}
	addi = Ins{OpAddi, 1, 2, 0, -1}
)

// P12.3: bytes written out by hand, and the chapter's example.
func TestCode(t *testing.T) {
	b, e, line := Code("nop\naddi 1 2 -1\n")
	want := []byte{1, 0, 0, 0, 0, 0, 0, 0, 0x10, 0x41, 0, 0, 255, 255, 255, 255}
	if !bytes.Equal(b, want) || e != api.OK || line != 0 {
		t.Error(b, e, line)
	}
	b, e, line = Code("ld8 31 30 66051")
	if !bytes.Equal(b, []byte{23, 0xdf, 3, 0, 3, 2, 1, 0}) || e != api.OK || line != 0 {
		t.Error(b, e, line)
	}
	fails(t, "nop\nfoo", api.ErrForm, 2)
}

// P12.3: lines that are ignored: empty ones, of spaces only, comments with and without spaces ahead.
func TestIgnored(t *testing.T) {
	assembles(t, "")
	for _, s := range []string{"", " ", "  ", "      ", "#", "# ", "##", "#nop", "# foo", "  # foo", " #", "#\t", "# \x00\xff\r", "   #1"} {
		assembles(t, s)
		assembles(t, s+"\n")
		assembles(t, "\n"+s)
		assembles(t, s+"\n"+s+"\n\n"+s)
		assembles(t, s+"\nnop", nop)
		assembles(t, "nop\n"+s, nop)
		assembles(t, "nop\n"+s+"\naddi 1 2 -1\n"+s+"\n", nop, addi)
		fails(t, s+"\nfoo\n"+s, api.ErrForm, 2)
		fails(t, "nop\n"+s+"\n"+s+"\nfoo\n"+s, api.ErrForm, 4)
	}
}

// P12.3: what looks like a line to be ignored and isn't.
func TestNotIgnored(t *testing.T) {
	for _, s := range []string{"\t", "\r", " \t", "\t#", "\t # foo", "\u00a0", "\u00a0#", "nop # no comment", "nop#", ";", "//", "x#", "-#", "\v", "\x00", "\uff03"} {
		fails(t, s, api.ErrForm, 1)
		fails(t, s+"\n", api.ErrForm, 1)
		fails(t, "\n"+s, api.ErrForm, 2)
		fails(t, "nop\n#\n"+s+"\nnop", api.ErrForm, 3)
	}
}

// P12.3: a line with and without a line feed at the end, and spaces in it; just a line feed separates lines.
func TestLines(t *testing.T) {
	for _, s := range []string{"nop", "nop\n", "\nnop", "nop\n\n", " nop \n", "\n\n  nop\n\n"} {
		assembles(t, s, nop)
	}
	for _, s := range []string{"nop\naddi 1 2 -1", "nop\naddi 1 2 -1\n", "nop\n\n addi 1  2 -1  ", "\n#\nnop\n #\naddi 1 2 -1\n "} {
		assembles(t, s, nop, addi)
	}
	for _, s := range []string{"nop\r\n", "nop\r", "nop nop", "nop;nop", "nop\u2028nop", "nop\fnop", "nop\vnop", "nop\x85nop", "nop\\nnop"} {
		fails(t, s, api.ErrForm, 1)
		fails(t, "nop\n"+s, api.ErrForm, 2)
	}
}

// P12.3: each operation's text, in order.
func TestCodeOfEachOperation(t *testing.T) {
	for _, o := range list() {
		l := some(o)
		slices.Reverse(l)
		for len(l) > 0 {
			part := l[:min(len(l), 500)]
			l = l[len(part):]
			var lines []string
			for _, i := range part {
				lines = append(lines, plainText(o, i))
			}
			assembles(t, strings.Join(lines, "\n"), part...)
			lines = append(lines, o.name+" x")
			fails(t, strings.Join(lines, "\n"), api.ErrForm, len(lines))
		}
	}
}

// P12.3: the first of several wrong lines is told, with its number, ignored lines being counted too.
func TestFirstWrong(t *testing.T) {
	for n := 1; n < 20; n++ {
		for first := range n {
			for other := first; other < n; other++ {
				for _, filled := range []string{"nop", "", "  ", "# foo"} {
					lines := slices.Repeat([]string{filled}, n)
					lines[first], lines[other] = "foo", "addi 1 2"
					fails(t, strings.Join(lines, "\n"), api.ErrForm, first+1)
					fails(t, strings.Join(lines, "\n")+"\n", api.ErrForm, first+1)
					lines[first], lines[other] = "mov 1 32", "NOP"
					fails(t, strings.Join(lines, "\n"), api.ErrForm, min(first, other)+1)
				}
			}
		}
	}
}

// P12.3: 65536 bytes are not too many, 65537 are, whatever the text is.
func TestSize(t *testing.T) {
	most := 65536
	assembles(t, strings.Repeat(" ", most))
	assembles(t, strings.Repeat("\n", most))
	assembles(t, "#"+strings.Repeat("x", most-1))
	assembles(t, "nop"+strings.Repeat(" ", most-3), nop)
	assembles(t, strings.Repeat("\n", most-3)+"nop", nop)
	assembles(t, strings.Repeat("nop\n", most/4), slices.Repeat([]Ins{nop}, most/4)...)
	fails(t, strings.Repeat("\n", most-1)+"x", api.ErrForm, most)
	fails(t, strings.Repeat("x", most), api.ErrForm, 1)
	for _, more := range []int{1, 2, 255, 65536, 1 << 20} {
		for _, s := range []string{
			strings.Repeat(" ", most+more),
			strings.Repeat("\n", most+more),
			"#" + strings.Repeat("x", most+more-1),
			"nop" + strings.Repeat(" ", most+more-3),
			strings.Repeat("nop\n", (most+more+3)/4) + "\n",
			strings.Repeat("x", most+more),
			"foo\n" + strings.Repeat(" ", most+more-4),
			strings.Repeat("\n", most+more-1) + "x",
		} {
			fails(t, s, api.ErrSize, 0)
		}
	}
	// Bytes count, not runes.
	assembles(t, "#"+strings.Repeat("é", most/2-1)+"x")
	fails(t, "#"+strings.Repeat("é", most/2), api.ErrSize, 0)
}

// P12.3: texts of any kind, held against their lines one by one.
func TestAnyCode(t *testing.T) {
	m := forms()
	r := rand.New(rand.NewSource(3))
	kinds := []string{"nop", "nop", "addi 1 2 -1", " mov 3  4 ", "sys", "movi 31 -2147483648", "", " ", "# x", "  #", "jmp 8", "trap 2147483647"}
	wrong := []string{"foo", "nop 1", "\t", "mov 1", "mov 1 32", "trap 2147483648"}
	told := map[api.Errno]int{}
	for range 5000 {
		var lines []string
		for range r.Intn(12) {
			lines = append(lines, kinds[r.Intn(len(kinds))])
			if r.Intn(12) == 0 {
				lines[len(lines)-1] = wrong[r.Intn(len(wrong))]
			}
		}
		text := strings.Join(lines, "\n")
		var l []Ins
		bad := 0
		for k, line := range lines {
			if rest := strings.Trim(line, " "); rest == "" || strings.HasPrefix(rest, "#") {
				continue
			}
			i, e := plainParse(m, line)
			if e != api.OK {
				bad = k + 1
				break
			}
			l = append(l, i)
		}
		if bad > 0 {
			told[api.ErrForm]++
			fails(t, text, api.ErrForm, bad)
			continue
		}
		told[api.OK]++
		assembles(t, text, l...)
	}
	if told[api.OK] < 500 || told[api.ErrForm] < 500 {
		t.Error(told)
	}
}

// P12.3: the words are what Encode answers for what Parse answers, eight bytes each.
func TestCodeIsEncodeOfParse(t *testing.T) {
	for _, i := range all() {
		s, _ := Text(i)
		w, _ := Encode(i)
		b, e, line := Code(s)
		if len(b) != 8 || binary.LittleEndian.Uint64(b) != w || e != api.OK || line != 0 {
			t.Fatal(i, s, w, b, e, line)
		}
		if back, e := Decode(binary.LittleEndian.Uint64(b)); back != i || e != api.OK {
			t.Fatal(i, back, e)
		}
	}
}

// Results are in new memory, and equal calls have equal results.
func TestNewMemory(t *testing.T) {
	first, _, _ := Code("nop\nsys")
	for k := range first[:cap(first)] {
		first[:cap(first)][k] = 99
	}
	second, e, line := Code("nop\nsys")
	if !bytes.Equal(second, bytesOfAll(nop, Ins{Op: OpSys})) || e != api.OK || line != 0 {
		t.Error(second, e, line)
	}
}
