package notes

import (
	"bytes"
	"encoding/binary"
	"fmt"
	"math"
	"slices"
	"strings"
	"testing"

	"dormouse/api"
)

// maxFile is how many bytes there may be.
const maxFile = 65536

// shown is the note of the chapter's examples.
var shown = Note{Name: "a", Type: 5, Desc: []byte{7}}

// shownBytes are its bytes.
var shownBytes = []byte{2, 0, 0, 0, 1, 0, 0, 0, 5, 0, 0, 0, 97, 0, 0, 0, 7, 0, 0, 0}

// greatest are three bytes whose bits are all set.
var greatest = Note{Name: "\xff\xff\xff", Type: math.MaxUint32, Desc: []byte{255, 255, 255, 255, 255}}

// empty is the note whose fields are all zero values; it has 16 bytes.
var empty = Note{}

// named is a note of such sizes, in whose bytes there is no 0 but for those of the rules.
func named(name, desc int) Note {
	n := Note{Type: 0x04030201}
	var b []byte
	for i := range name {
		b = append(b, byte(1+i%255))
	}
	n.Name = string(b)
	for i := range desc {
		n.Desc = append(n.Desc, byte(255-i%255))
	}
	return n
}

// some are notes of all small sizes, and some others.
func some() []Note {
	l := []Note{empty, shown, greatest, {Name: "CORE", Type: 1}, {Name: "é\xffz", Type: 1 << 31, Desc: []byte{0, 0}}}
	for name := range 9 {
		for desc := range 9 {
			l = append(l, named(name, desc))
		}
	}
	return append(l, named(300, 1), named(1, 300), named(255, 256), named(256, 255))
}

// zeros are the bytes that a length's padding has.
func zeros(length int) []byte {
	var b []byte
	for (length+len(b))%4 != 0 {
		b = append(b, 0)
	}
	return b
}

// plain are the bytes of notes, piece by piece.
func plain(l ...Note) []byte {
	var b []byte
	for _, n := range l {
		b = slices.Concat(b, begin(uint32(len(n.Name)+1), uint32(len(n.Desc)), n.Type),
			[]byte(n.Name), []byte{0}, zeros(len(n.Name)+1), n.Desc, zeros(len(n.Desc)))
	}
	return b
}

// begin are the twelve bytes that a note begins with.
func begin(name, desc, kind uint32) []byte {
	var b []byte
	for _, x := range []uint32{name, desc, kind} {
		b = binary.LittleEndian.AppendUint32(b, x)
	}
	return b
}

// reckoned is what Get should answer, of each note by the six rules alone, with indices into the whole.
func reckoned(b []byte) ([]Note, api.Errno) {
	if len(b) > maxFile {
		return nil, api.ErrSize
	}
	var l []Note
	for at := 0; at != len(b); {
		if at+12 > len(b) {
			return nil, api.ErrRange
		}
		name := at + 12
		behind := name + int(binary.LittleEndian.Uint32(b[at:]))
		size := int(binary.LittleEndian.Uint32(b[at+4:]))
		desc := behind + len(zeros(behind-name))
		end := desc + size + len(zeros(size))
		if behind == name {
			return nil, api.ErrForm
		}
		if desc > len(b) {
			return nil, api.ErrRange
		}
		if bytes.Contains(b[name:behind-1], []byte{0}) || len(bytes.Trim(b[behind-1:desc], "\x00")) != 0 {
			return nil, api.ErrForm
		}
		if end > len(b) {
			return nil, api.ErrRange
		}
		if len(bytes.Trim(b[desc+size:end], "\x00")) != 0 {
			return nil, api.ErrForm
		}
		l = append(l, Note{string(b[name : behind-1]), binary.LittleEndian.Uint32(b[at+8:]), b[desc : desc+size]})
		at = end
	}
	return l, api.OK
}

// stirred are so many bytes that look like no rule.
func stirred(n int, x uint64) []byte {
	b := make([]byte, n)
	for i := range b {
		x = x*6364136223846793005 + 1442695040888963407
		b[i] = byte(x >> 56)
	}
	return b
}

// equal tells whether two notes are.
func equal(a, b Note) bool {
	return a.Name == b.Name && a.Type == b.Type && bytes.Equal(a.Desc, b.Desc)
}

// copied are notes in new memory.
func copied(l []Note) []Note {
	out := slices.Clone(l)
	for i := range out {
		out[i].Desc = bytes.Clone(out[i].Desc)
	}
	return out
}

// short is what a failure tells of notes or bytes, which may be many.
func short(x any) string {
	text := fmt.Sprint(x)
	return text[:min(300, len(text))]
}

// puts fails the test unless Put answers this, and leaves the notes as they are.
func puts(t *testing.T, l []Note, want []byte, err api.Errno) {
	t.Helper()
	kept := copied(l)
	if b, e := Put(l); !bytes.Equal(b, want) || e != err {
		t.Fatalf("Put of %s: %s, %d; want %s, %d", short(l), short(b), e, short(want), err)
	}
	if !slices.EqualFunc(l, kept, equal) {
		t.Fatalf("Put changed its notes from %s to %s", short(kept), short(l))
	}
}

// gets fails the test unless Get answers this, and leaves the bytes as they are.
func gets(t *testing.T, b []byte, want []Note, err api.Errno) {
	t.Helper()
	kept := bytes.Clone(b)
	if l, e := Get(b); !slices.EqualFunc(l, want, equal) || e != err {
		t.Fatalf("Get of %s: %s, %d; want %s, %d", short(b), short(l), e, short(want), err)
	}
	if !bytes.Equal(b, kept) {
		t.Fatalf("Get changed its bytes from %s to %s", short(kept), short(b))
	}
}

// finds fails the test unless Find answers this, and leaves the notes as they are.
func finds(t *testing.T, l []Note, name string, kind uint32, want []byte, there bool) {
	t.Helper()
	kept := copied(l)
	if b, ok := Find(l, name, kind); !bytes.Equal(b, want) || ok != there {
		t.Fatalf("Find of %q and %d in %s: % x, %t; want % x, %t", name, kind, short(l), b, ok, want, there)
	}
	if !slices.EqualFunc(l, kept, equal) {
		t.Fatalf("Find changed its notes from %s to %s", short(kept), short(l))
	}
}

// P8.1, P8.2, P8.3: the chapter's examples.
func TestExamples(t *testing.T) {
	puts(t, []Note{{"a", 5, []byte{7}}}, shownBytes, api.OK)
	gets(t, shownBytes, []Note{{"a", 5, []byte{7}}}, api.OK)
	wrong := bytes.Clone(shownBytes)
	wrong[len(wrong)-1] = 1
	gets(t, wrong, nil, api.ErrForm)
	finds(t, []Note{{"a", 5, []byte{7}}}, "a", 5, []byte{7}, true)
}

// P8.1: no note, one and several, all bytes written out.
func TestPutBytes(t *testing.T) {
	puts(t, nil, nil, api.OK)
	puts(t, []Note{}, nil, api.OK)
	puts(t, []Note{empty}, []byte{1, 0, 0, 0, 0, 0, 0, 0, 0, 0, 0, 0, 0, 0, 0, 0}, api.OK)
	puts(t, []Note{greatest}, []byte{
		4, 0, 0, 0, 5, 0, 0, 0, 255, 255, 255, 255,
		255, 255, 255, 0,
		255, 255, 255, 255, 255, 0, 0, 0,
	}, api.OK)
	puts(t, []Note{{"CORE", 0x04030201, []byte{9, 8}}, empty, {"xyz", 1 << 31, nil}, {"", 256, []byte{1, 2, 3, 4}}}, []byte{
		5, 0, 0, 0, 2, 0, 0, 0, 1, 2, 3, 4,
		'C', 'O', 'R', 'E', 0, 0, 0, 0,
		9, 8, 0, 0,
		1, 0, 0, 0, 0, 0, 0, 0, 0, 0, 0, 0,
		0, 0, 0, 0,
		4, 0, 0, 0, 0, 0, 0, 0, 0, 0, 0, 128,
		'x', 'y', 'z', 0,
		1, 0, 0, 0, 4, 0, 0, 0, 0, 1, 0, 0,
		0, 0, 0, 0,
		1, 2, 3, 4,
	}, api.OK)
}

// P8.1: each byte of the three integers has its own place, where a length is above 255 too.
func TestPutIntegers(t *testing.T) {
	n := named(0x0201-1, 0x0403)
	n.Type = 0x0c0b0a09
	b, e := Put([]Note{n})
	if e != api.OK || !bytes.Equal(b[:12], []byte{1, 2, 0, 0, 3, 4, 0, 0, 9, 10, 11, 12}) {
		t.Errorf("% x, %d", b[:min(12, len(b))], e)
	}
	puts(t, []Note{n}, plain(n), api.OK)
	for _, length := range []int{253, 254, 255, 256, 257, 511, 512, 32766, 32767, 32768, 65000} {
		puts(t, []Note{named(length, 0)}, plain(named(length, 0)), api.OK)
		puts(t, []Note{named(0, length)}, plain(named(0, length)), api.OK)
	}
}

// P8.1: names and Descs of 0 to 8 bytes, alone, between others and two of them.
func TestPutPadding(t *testing.T) {
	for name := range 9 {
		for desc := range 9 {
			n := named(name, desc)
			if want := 12 + (name+4)/4*4 + (desc+3)/4*4; len(plain(n)) != want {
				t.Fatal(len(plain(n)), want)
			}
			puts(t, []Note{n}, plain(n), api.OK)
			puts(t, []Note{n, n}, plain(n, n), api.OK)
			puts(t, []Note{shown, n, greatest}, slices.Concat(plain(shown), plain(n), plain(greatest)), api.OK)
		}
	}
}

// P8.1: the name, the byte 0, Desc and both paddings, byte by byte.
func TestPutEachByte(t *testing.T) {
	for name := range 9 {
		for desc := range 9 {
			n := named(name, desc)
			b, e := Put([]Note{n})
			if e != api.OK {
				t.Fatal(e)
			}
			descAt := 12 + (name+4)/4*4
			for i, c := range b[12:] {
				at, want := 12+i, byte(0)
				if at < 12+name {
					want = n.Name[i]
				} else if at >= descAt && at < descAt+desc {
					want = n.Desc[at-descAt]
				}
				if c != want {
					t.Errorf("%d, %d: byte %d is %d; want %d", name, desc, at, c, want)
				}
			}
		}
	}
}

// P8.1: Type at 0, at its greatest and with each bit alone.
func TestPutType(t *testing.T) {
	kinds := []uint32{0, math.MaxUint32, math.MaxUint32 - 1, 0x04030201}
	for bit := range 32 {
		kinds = append(kinds, 1<<bit, ^(1 << bit))
	}
	for _, kind := range kinds {
		n := Note{"a", kind, []byte{7}}
		want := bytes.Clone(shownBytes)
		for i := range 4 {
			want[8+i] = byte(kind >> (8 * i))
		}
		puts(t, []Note{n}, want, api.OK)
		gets(t, want, []Note{n}, api.OK)
	}
}

// P8.1: a byte 0 in a name, at each place of it, in each note of a list.
func TestPutZeroInName(t *testing.T) {
	good := []Note{shown, greatest, empty}
	for size := 1; size < 10; size++ {
		for at := range size {
			name := []byte(strings.Repeat("n", size))
			name[at] = 0
			wrong := Note{Name: string(name), Type: 1, Desc: []byte{1}}
			puts(t, []Note{wrong}, nil, api.ErrArg)
			for i := range len(good) + 1 {
				puts(t, slices.Insert(slices.Clone(good), i, wrong), nil, api.ErrArg)
			}
			puts(t, []Note{wrong, wrong}, nil, api.ErrArg)
		}
	}
	puts(t, []Note{{Name: "\x00"}}, nil, api.ErrArg)
	puts(t, []Note{{Name: "\x00\x00\x00"}}, nil, api.ErrArg)
	puts(t, []Note{{Name: "a\x00"}}, nil, api.ErrArg)
	puts(t, []Note{{Name: "0"}, {Name: `\0`}}, plain(Note{Name: "0"}, Note{Name: `\0`}), api.OK)
}

// P8.1: any other byte in a name, and each byte in a Desc, 0 too.
func TestPutOtherBytes(t *testing.T) {
	for c := 1; c < 256; c++ {
		n := Note{Name: string([]byte{byte(c), 'x', byte(c)})}
		puts(t, []Note{n}, plain(n), api.OK)
	}
	for size := range 10 {
		n := Note{Name: "d", Desc: make([]byte, size)}
		puts(t, []Note{n}, plain(n), api.OK)
		for at := range size {
			n.Desc = bytes.Repeat([]byte{9}, size)
			n.Desc[at] = 0
			puts(t, []Note{n, n}, plain(n, n), api.OK)
		}
	}
	all := make([]byte, 256)
	for c := range all {
		all[c] = byte(c)
	}
	puts(t, []Note{{Desc: all}}, plain(Note{Desc: all}), api.OK)
}

// P8.1: exactly 65536 bytes, and one padding more, by a name, a Desc, both, or several notes.
func TestPutSize(t *testing.T) {
	for _, l := range [][]Note{
		{named(65523, 0)}, {named(65522, 0)}, {named(65520, 0)},
		{named(0, 65520)}, {named(0, 65519)}, {named(0, 65517)},
		{named(32763, 32760)}, {named(32760, 32757)},
		{shown, named(0, 65500)}, {named(0, 65500), shown}, {named(65503, 0), shown},
		slices.Repeat([]Note{empty}, 4096),
		append(slices.Repeat([]Note{named(3, 13)}, 2047), named(0, 16)),
	} {
		if n := len(plain(l...)); n != maxFile {
			t.Fatal(n)
		}
		puts(t, l, plain(l...), api.OK)
		gets(t, plain(l...), l, api.OK)
		for i := range min(len(l), 3) {
			longer := copied(l)
			longer[i].Desc = append(longer[i].Desc, 1, 1, 1, 1)
			puts(t, longer, nil, api.ErrSize)
			longer = copied(l)
			longer[i].Name += "nnnn"
			puts(t, longer, nil, api.ErrSize)
		}
		puts(t, append(copied(l), empty), nil, api.ErrSize)
		puts(t, append([]Note{empty}, l...), nil, api.ErrSize)
	}
	puts(t, []Note{named(65524, 0)}, nil, api.ErrSize)
	puts(t, []Note{named(0, 65521)}, nil, api.ErrSize)
	puts(t, []Note{named(32763, 32761)}, nil, api.ErrSize)
	puts(t, []Note{named(32764, 32760)}, nil, api.ErrSize)
	// Both paddings together make these too long.
	for name := 4; name < 7; name++ {
		puts(t, []Note{named(name, 65523-name)}, nil, api.ErrSize)
		puts(t, []Note{named(65522-name, name+1)}, nil, api.ErrSize)
		puts(t, []Note{shown, named(name, 65503-name)}, nil, api.ErrSize)
		gets(t, plain(named(name, 65523-name)), nil, api.ErrSize)
	}
	puts(t, slices.Repeat([]Note{empty}, 4097), nil, api.ErrSize)
	puts(t, slices.Repeat([]Note{shown}, 3277), nil, api.ErrSize)
	puts(t, slices.Repeat([]Note{shown}, 3276), plain(slices.Repeat([]Note{shown}, 3276)...), api.OK)
}

// P8.1: far too many bytes, also if they are those of one slice again and again.
func TestPutFarTooLong(t *testing.T) {
	for _, size := range []int{65536, 65537, 1 << 17, 1 << 20, 1<<24 + 5} {
		n := Note{Name: "d", Desc: make([]byte, size)}
		puts(t, []Note{n}, nil, api.ErrSize)
		puts(t, []Note{shown, n}, nil, api.ErrSize)
		puts(t, []Note{{Name: strings.Repeat("n", size)}}, nil, api.ErrSize)
	}
	n := Note{Name: strings.Repeat("n", 1<<10), Desc: make([]byte, 1<<20)}
	if b, e := Put(slices.Repeat([]Note{n}, 1<<12)); b != nil || e != api.ErrSize {
		t.Error(len(b), e)
	}
}

// P8.1: of a byte 0 in a name and too many bytes the first is told, wherever both are.
func TestPutZeroAndSize(t *testing.T) {
	zero, long := Note{Name: "a\x00b"}, named(0, 65521)
	puts(t, []Note{long}, nil, api.ErrSize)
	for _, l := range [][]Note{
		{zero, long}, {long, zero}, {long, long, zero}, {shown, long, shown, zero, shown},
		{{Name: "\x00", Desc: make([]byte, 65521)}},
		{{Name: strings.Repeat("n", 70000) + "\x00"}},
		{{Name: "\x00" + strings.Repeat("n", 70000)}},
		append(slices.Repeat([]Note{shown}, 5000), zero),
		append([]Note{zero}, slices.Repeat([]Note{shown}, 5000)...),
	} {
		puts(t, l, nil, api.ErrArg)
	}
}

// P8.2: no bytes, one note and several.
func TestGetNotes(t *testing.T) {
	gets(t, nil, nil, api.OK)
	gets(t, []byte{}, nil, api.OK)
	gets(t, make([]byte, 10)[5:5], nil, api.OK)
	gets(t, []byte{1, 0, 0, 0, 0, 0, 0, 0, 0, 0, 0, 0, 0, 0, 0, 0}, []Note{{}}, api.OK)
	gets(t, slices.Concat(shownBytes, shownBytes), []Note{shown, shown}, api.OK)
	gets(t, []byte{
		5, 0, 0, 0, 2, 0, 0, 0, 1, 2, 3, 4,
		'C', 'O', 'R', 'E', 0, 0, 0, 0,
		9, 8, 0, 0,
		1, 0, 0, 0, 0, 0, 0, 0, 255, 255, 255, 255,
		0, 0, 0, 0,
		4, 0, 0, 0, 4, 0, 0, 0, 0, 0, 0, 128,
		'x', 255, 'z', 0,
		0, 0, 0, 0,
	}, []Note{{"CORE", 0x04030201, []byte{9, 8}}, {"", math.MaxUint32, nil}, {"x\xffz", 1 << 31, make([]byte, 4)}}, api.OK)
	for _, n := range some() {
		gets(t, plain(n), []Note{n}, api.OK)
		gets(t, plain(shown, n, greatest), []Note{shown, n, greatest}, api.OK)
	}
	gets(t, plain(some()...), some(), api.OK)
}

// P8.2: more than 65536 bytes are too many, whatever they are.
func TestGetSize(t *testing.T) {
	whole := plain(slices.Repeat([]Note{empty}, 4097)...)
	gets(t, whole[:65536], slices.Repeat([]Note{empty}, 4096), api.OK)
	gets(t, whole[:65536:65536], slices.Repeat([]Note{empty}, 4096), api.OK)
	for _, size := range []int{65537, 65538, 65540, 65547, 65548, 65551, 65552} {
		gets(t, whole[:size], nil, api.ErrSize)
		gets(t, make([]byte, size), nil, api.ErrSize)
		gets(t, bytes.Repeat([]byte{255}, size), nil, api.ErrSize)
		gets(t, append(bytes.Clone(shownBytes), make([]byte, size-20)...), nil, api.ErrSize)
	}
	gets(t, whole[:65535], nil, api.ErrRange)
	gets(t, make([]byte, 65536), nil, api.ErrForm)
	gets(t, bytes.Repeat([]byte{255}, 65536), nil, api.ErrRange)
	gets(t, plain(named(0, 65521)), nil, api.ErrSize)
	gets(t, plain(named(65524, 0)), nil, api.ErrSize)
	gets(t, plain(named(0, 65520)), []Note{named(0, 65520)}, api.OK)
	gets(t, plain(named(65523, 0)), []Note{named(65523, 0)}, api.OK)
	gets(t, make([]byte, 1<<20), nil, api.ErrSize)
}

// P8.2: 1 to 11 bytes, alone and behind whole notes; the first error even if the first length is 0.
func TestGetFewBytes(t *testing.T) {
	for _, ahead := range [][]Note{nil, {shown}, {empty, greatest}, {named(3, 5), named(8, 8)}} {
		for size := 1; size < 12; size++ {
			for _, fill := range []byte{0, 1, 5, 255} {
				gets(t, append(plain(ahead...), bytes.Repeat([]byte{fill}, size)...), nil, api.ErrRange)
			}
			gets(t, append(plain(ahead...), shownBytes[:size]...), nil, api.ErrRange)
		}
		gets(t, append(plain(ahead...), make([]byte, 12)...), nil, api.ErrForm)
		gets(t, append(plain(ahead...), shownBytes[:12]...), nil, api.ErrRange)
	}
}

// P8.2: notes of which the last or the first bytes are cut off.
func TestGetCut(t *testing.T) {
	first := plain(greatest)
	b := slices.Concat(first, plain(named(5, 6)))
	for size := range b {
		if size == 0 {
			gets(t, b[:0], nil, api.OK)
			continue
		}
		if size == len(first) {
			gets(t, b[:size], []Note{greatest}, api.OK)
			continue
		}
		gets(t, b[:size], nil, api.ErrRange)
		gets(t, bytes.Clone(b[:size]), nil, api.ErrRange)
	}
	for at := range b {
		l, e := reckoned(b[at:])
		gets(t, b[at:], l, e)
	}
}

// P8.2: the first length is 0, with all that might stand behind it.
func TestGetNoName(t *testing.T) {
	for _, ahead := range [][]byte{nil, shownBytes, plain(greatest, empty)} {
		for size := range 30 {
			for _, fill := range []byte{0, 1, 255} {
				rest := bytes.Repeat([]byte{fill}, size)
				for _, desc := range []uint32{0, 1, 4, 100, math.MaxUint32} {
					gets(t, slices.Concat(ahead, begin(0, desc, 5), rest), nil, api.ErrForm)
				}
			}
		}
	}
}

// P8.2: the first length is 1, so that the name is empty.
func TestGetEmptyName(t *testing.T) {
	for size := range 4 {
		gets(t, append(begin(1, 0, 9), make([]byte, size)...), nil, api.ErrRange)
		gets(t, append(begin(1, 0, 9), bytes.Repeat([]byte{1}, size)...), nil, api.ErrRange)
	}
	gets(t, append(begin(1, 0, 9), 0, 0, 0, 0), []Note{{Type: 9}}, api.OK)
	for at := range 4 {
		b := append(begin(1, 0, 9), 0, 0, 0, 0)
		b[12+at] = 1
		gets(t, b, nil, api.ErrForm)
	}
}

// P8.2: the first length is great, so that its padding might go over 2^32.
func TestGetGreatNames(t *testing.T) {
	for _, name := range []uint32{math.MaxUint32, math.MaxUint32 - 1, math.MaxUint32 - 2, math.MaxUint32 - 3, math.MaxUint32 - 4,
		1 << 31, 1<<31 - 1, 1 << 24, 65536, 65537, 1000} {
		for _, size := range []int{0, 1, 4, 8, 100} {
			for _, fill := range []byte{0, 7} {
				rest := bytes.Repeat([]byte{fill}, size)
				gets(t, slices.Concat(begin(name, 0, 5), rest), nil, api.ErrRange)
				gets(t, slices.Concat(shownBytes, begin(name, 4, 5), rest), nil, api.ErrRange)
			}
		}
	}
}

// P8.2: the first length is just as many bytes as are left, with its padding and without it.
func TestGetNameToTheEnd(t *testing.T) {
	for left := 1; left < 40; left++ {
		rest := bytes.Repeat([]byte{'n'}, left)
		rest[left-1] = 0
		whole := append(begin(uint32(left), 0, 5), rest...)
		if left%4 == 0 {
			gets(t, whole, []Note{{strings.Repeat("n", left-1), 5, nil}}, api.OK)
		}
		for b := whole; len(b)%4 != 0; b = append(b, 0) {
			gets(t, b, nil, api.ErrRange)
		}
		gets(t, append(whole, zeros(left)...), []Note{{strings.Repeat("n", left-1), 5, nil}}, api.OK)
		gets(t, append(begin(uint32(left)+1, 0, 5), rest...), nil, api.ErrRange)
		gets(t, append(begin(uint32(left), 1, 5), slices.Concat(rest, zeros(left))...), nil, api.ErrRange)
	}
}

// P8.2: a byte 0 at each place of a name, and another one in the place of its byte 0 and of its padding.
func TestGetNameForm(t *testing.T) {
	for size := range 10 {
		n := named(size, 5)
		for _, ahead := range [][]Note{nil, {shown}, {greatest, empty}} {
			for _, behind := range [][]Note{nil, {shown}} {
				b := slices.Concat(plain(ahead...), plain(n), plain(behind...))
				name := len(plain(ahead...)) + 12
				desc := name + (size+4)/4*4
				for at := name; at < desc; at++ {
					kept := b[at]
					if at < name+size {
						b[at] = 0
						gets(t, b, nil, api.ErrForm)
					} else {
						for _, c := range []byte{1, 2, 128, 255} {
							b[at] = c
							gets(t, b, nil, api.ErrForm)
						}
					}
					b[at] = kept
				}
				gets(t, b, slices.Concat(ahead, []Note{n}, behind), api.OK)
			}
		}
	}
}

// P8.2: Desc's length 0, at its greatest, just what is left, one more, and with its padding cut off.
func TestGetDescSizes(t *testing.T) {
	name := []byte{'a', 'b', 'c', 0}
	for left := range 40 {
		rest := bytes.Repeat([]byte{9}, left)
		whole := slices.Concat(begin(4, uint32(left), 5), name, rest)
		want := []Note{{"abc", 5, rest}}
		if left%4 == 0 {
			gets(t, whole, want, api.OK)
		}
		for b := whole; len(b)%4 != 0; b = append(b, 0) {
			gets(t, b, nil, api.ErrRange)
		}
		gets(t, append(whole, zeros(left)...), want, api.OK)
		gets(t, slices.Concat(whole, zeros(left), shownBytes), append(want, shown), api.OK)
		more := slices.Concat(begin(4, uint32(left)+1, 5), name, rest)
		gets(t, more, nil, api.ErrRange)
		for _, size := range []uint32{math.MaxUint32, math.MaxUint32 - 1, math.MaxUint32 - 2, math.MaxUint32 - 3, math.MaxUint32 - 4, 1 << 31, 1 << 24, 65537} {
			gets(t, slices.Concat(begin(4, size, 5), name, rest), nil, api.ErrRange)
			gets(t, slices.Concat(shownBytes, begin(4, size, 5), name, rest), nil, api.ErrRange)
		}
	}
	gets(t, slices.Concat(begin(4, 0, 5), name), []Note{{"abc", 5, nil}}, api.OK)
	gets(t, slices.Concat(begin(4, 0, 5), name, []byte{0}), nil, api.ErrRange)
}

// P8.2: a byte that is not 0 in each place of the padding behind Desc.
func TestGetDescPadding(t *testing.T) {
	found := 0
	for size := range 10 {
		for _, ahead := range [][]Note{nil, {shown}} {
			for _, behind := range [][]Note{nil, {greatest}} {
				n := named(2, size)
				b := slices.Concat(plain(ahead...), plain(n), plain(behind...))
				desc := len(plain(ahead...)) + 16
				for i := range zeros(size) {
					found++
					for _, c := range []byte{1, 4, 128, 255} {
						b[desc+size+i] = c
						gets(t, b, nil, api.ErrForm)
					}
					b[desc+size+i] = 0
				}
				for at := range size {
					b[desc+at] = 0
				}
				n.Desc = make([]byte, size)
				gets(t, b, slices.Concat(ahead, []Note{n}, behind), api.OK)
			}
		}
	}
	if found != 4*(3+2+1+3+2+1+3) {
		t.Error(found)
	}
}

// P8.2: of two faults of a note the one that the chapter names first.
func TestGetTwoFaults(t *testing.T) {
	wrong := []byte{'a', 0, 'b', 0} // a byte 0 in the name
	ended := []byte{'a', 'b', 'c', 1}
	good := []byte{'a', 'b', 'c', 0}
	padded := []byte{'a', 0, 0, 1}
	for _, ahead := range [][]byte{nil, shownBytes} {
		for _, c := range []struct {
			b   []byte
			err api.Errno
		}{
			// Fewer than twelve bytes, and the first length 0.
			{make([]byte, 11), api.ErrRange},
			// The first length 0, and Desc too long.
			{begin(0, math.MaxUint32, 5), api.ErrForm},
			{slices.Concat(begin(0, 1, 5), []byte{1, 1, 1, 1}), api.ErrForm},
			// A name that is too long, with a byte 0 in what there is of it, or Desc too long.
			{slices.Concat(begin(5, 0, 5), wrong), api.ErrRange},
			{slices.Concat(begin(100, math.MaxUint32, 5), wrong), api.ErrRange},
			{slices.Concat(begin(3, 0, 5), []byte{0, 0, 9}), api.ErrRange},
			// A name that may not be, and Desc too long, cut off or badly padded.
			{slices.Concat(begin(4, 1, 5), wrong), api.ErrForm},
			{slices.Concat(begin(4, math.MaxUint32, 5), ended), api.ErrForm},
			{slices.Concat(begin(2, 5, 5), padded, []byte{1, 2, 3, 4, 5, 0, 0}), api.ErrForm},
			{slices.Concat(begin(4, 1, 5), wrong, []byte{1, 1, 1, 1}), api.ErrForm},
			// Desc too long, and a byte in its padding's place.
			{slices.Concat(begin(4, 5, 5), good, []byte{1, 2, 3, 4, 5, 1, 1}), api.ErrRange},
			{slices.Concat(begin(4, 1, 5), good, []byte{1, 1, 1}), api.ErrRange},
			{slices.Concat(begin(4, 1, 5), good, []byte{1, 1, 1, 1}), api.ErrForm},
		} {
			gets(t, slices.Concat(ahead, c.b), nil, c.err)
			if _, e := reckoned(c.b); e != c.err {
				t.Error(c, e)
			}
		}
	}
}

// P8.2: of two notes that may not be the first one's error is told.
func TestGetTwoWrong(t *testing.T) {
	// Each of these is whole, so that the next one begins behind it.
	form := [][]byte{
		begin(0, 0, 5),
		slices.Concat(begin(4, 0, 5), []byte{'a', 0, 'b', 0}),
		slices.Concat(begin(4, 0, 5), []byte{'a', 'b', 'c', 'd'}),
		slices.Concat(begin(2, 0, 5), []byte{'a', 0, 1, 0}),
		slices.Concat(begin(4, 2, 5), []byte{'a', 'b', 'c', 0, 1, 2, 0, 3}),
	}
	// And each of these goes over the end.
	over := [][]byte{
		{0}, make([]byte, 11),
		begin(1, 0, 5),
		slices.Concat(begin(4, 1, 5), []byte{'a', 'b', 'c', 0}),
		slices.Concat(begin(4, 9, 5), []byte{'a', 'b', 'c', 0}, make([]byte, 11)),
	}
	for _, a := range form {
		gets(t, slices.Concat(a, shownBytes), nil, api.ErrForm)
		for _, b := range slices.Concat(form, over) {
			gets(t, slices.Concat(a, b), nil, api.ErrForm)
			gets(t, slices.Concat(shownBytes, a, shownBytes, b), nil, api.ErrForm)
		}
	}
	for _, b := range over {
		gets(t, slices.Concat(shownBytes, b), nil, api.ErrRange)
	}
	// A note whose Desc takes in the malformed one behind it goes over the end all the same.
	gets(t, slices.Concat(begin(4, 17, 5), []byte{'a', 'b', 'c', 0}, form[1]), nil, api.ErrRange)
	gets(t, slices.Concat(begin(4, 16, 5), []byte{'a', 'b', 'c', 0}, form[1]), []Note{{"abc", 5, form[1]}}, api.OK)
}

// P8.2: each byte of notes, changed to every value.
func TestGetEachByte(t *testing.T) {
	b := plain(named(5, 6), shown, named(2, 3))
	found := map[api.Errno]int{}
	for at := range b {
		kept := b[at]
		for c := range 256 {
			b[at] = byte(c)
			l, e := reckoned(b)
			found[e]++
			gets(t, b, l, e)
		}
		b[at] = kept
	}
	if found[api.OK] < 2000 || found[api.ErrRange] < 1000 || found[api.ErrForm] < 1000 || len(found) != 3 {
		t.Error(found)
	}
}

// P8.2: bytes of any kind, most of them small, held against the rules one by one.
func TestGetAnyBytes(t *testing.T) {
	found := map[api.Errno]int{}
	for seed := range uint64(200000) {
		b := stirred(int(seed%41), seed)
		for i := range b {
			switch {
			case i%4 != 0 && seed%3 != 0:
				b[i] = 0
			case seed%5 != 0:
				b[i] %= 7
			}
		}
		l, e := reckoned(b)
		found[e]++
		gets(t, b, l, e)
	}
	if found[api.OK] < 5000 || found[api.ErrRange] < 5000 || found[api.ErrForm] < 5000 || len(found) != 3 {
		t.Error(found)
	}
}

// P8.2: what lies ahead of the slice and behind it doesn't count.
func TestGetAround(t *testing.T) {
	inside := plain(shown, named(6, 7))
	for ahead := range 20 {
		for _, fill := range []byte{0, 1, 255} {
			around := bytes.Repeat([]byte{fill}, 200)
			copy(around[ahead:], inside)
			end := ahead + len(inside)
			gets(t, around[ahead:end], []Note{shown, named(6, 7)}, api.OK)
			gets(t, around[ahead:end:end], []Note{shown, named(6, 7)}, api.OK)
			gets(t, around[ahead:ahead+20], []Note{shown}, api.OK)
			gets(t, around[ahead+20:end], []Note{named(6, 7)}, api.OK)
			gets(t, around[ahead:end-1], nil, api.ErrRange)
			gets(t, around[ahead:ahead+19], nil, api.ErrRange)
			gets(t, around[ahead:ahead], nil, api.OK)
		}
	}
}

// P8.2: many notes, in their order.
func TestGetMany(t *testing.T) {
	var l []Note
	for i := range 1500 {
		n := named(i%9, i%11)
		n.Type = uint32(i)
		l = append(l, n)
	}
	gets(t, plain(l...), l, api.OK)
	puts(t, l, plain(l...), api.OK)
}

// P8.3: none in an empty list; one of an empty name, with an empty Desc.
func TestFindEdges(t *testing.T) {
	finds(t, nil, "", 0, nil, false)
	finds(t, []Note{}, "a", 5, nil, false)
	finds(t, []Note{shown}, "", 0, nil, false)
	finds(t, []Note{empty}, "", 0, nil, true)
	finds(t, []Note{empty}, "", 1, nil, false)
	finds(t, []Note{empty}, "a", 0, nil, false)
	finds(t, []Note{shown, {Type: 5, Desc: []byte{1, 0, 2}}}, "", 5, []byte{1, 0, 2}, true)
	finds(t, []Note{{"a", 5, []byte{}}}, "a", 5, nil, true)
	finds(t, []Note{{"a", 5, nil}, shown}, "a", 5, nil, true)
	finds(t, []Note{greatest}, "\xff\xff\xff", math.MaxUint32, []byte{255, 255, 255, 255, 255}, true)
}

// P8.3: Name and Type have to be the same, both.
func TestFindBoth(t *testing.T) {
	l := []Note{{"a", 5, []byte{1}}, {"a", 6, []byte{2}}, {"b", 5, []byte{3}}, {"b", 7, []byte{4}}, {"ab", 8, []byte{5}}}
	for i, n := range l {
		finds(t, l, n.Name, n.Type, []byte{byte(1 + i)}, true)
	}
	for _, other := range []Note{{"a", 7, nil}, {"b", 6, nil}, {"c", 5, nil}, {"", 5, nil}, {"ab", 5, nil}, {"a", 8, nil},
		{"A", 5, nil}, {"a\x00", 5, nil}, {"aa", 5, nil}, {"a ", 5, nil},
		{"a", 5 + 256, nil}, {"a", 5 + 1<<16, nil}, {"a", 5 + 1<<31, nil}, {"a", 0, nil}, {"abc", 8, nil}} {
		finds(t, l, other.Name, other.Type, nil, false)
	}
	// A name that Put would not take is one of a list all the same.
	finds(t, []Note{{"a", 5, []byte{1}}, {"a\x00", 5, []byte{2}}}, "a\x00", 5, []byte{2}, true)
}

// P8.3: the first of several counts, wherever it stands.
func TestFindFirst(t *testing.T) {
	first, second := Note{"x", 3, []byte{1}}, Note{"x", 3, []byte{2, 2}}
	others := []Note{{"x", 4, []byte{8}}, {"y", 3, []byte{9}}}
	finds(t, []Note{first, second}, "x", 3, []byte{1}, true)
	finds(t, []Note{second, first}, "x", 3, []byte{2, 2}, true)
	finds(t, slices.Concat(others, []Note{first, second}), "x", 3, []byte{1}, true)
	finds(t, slices.Concat(others, []Note{second}, others, []Note{first}), "x", 3, []byte{2, 2}, true)
	finds(t, []Note{{"x", 3, nil}, second}, "x", 3, nil, true)
	finds(t, slices.Concat(others, others), "x", 3, nil, false)
	var many []Note
	for i := range 1000 {
		many = append(many, Note{"n", uint32(i % 100), []byte{byte(i / 100)}})
	}
	for kind := range uint32(100) {
		finds(t, many, "n", kind, []byte{0}, true)
		finds(t, many[100+kind+1:], "n", kind, []byte{2}, true)
	}
	finds(t, many, "n", 100, nil, false)
	// Notes ahead of the list and behind its end don't count.
	finds(t, many[5:10], "n", 4, nil, false)
	finds(t, many[5:10], "n", 10, nil, false)
	finds(t, many[5:10], "n", 5, []byte{0}, true)
}

// P8.4: Get returns what Put encoded, of each note alone and of lists.
func TestPutThenGet(t *testing.T) {
	check := func(l []Note) {
		t.Helper()
		b, e := Put(l)
		if e != api.OK {
			t.Fatal(l, e)
		}
		gets(t, b, l, api.OK)
	}
	check(nil)
	l := some()
	for i, n := range l {
		check([]Note{n})
		check([]Note{n, l[(7*i+3)%len(l)], n})
	}
	check(l)
	for seed := range uint64(500) {
		var l []Note
		for i := range seed % 6 {
			b := stirred(16, 10*seed+i)
			n := named(int(b[0]%30), 0)
			n.Type = binary.LittleEndian.Uint32(b[1:])
			n.Desc = stirred(int(b[5]%30), seed)
			l = append(l, n)
		}
		check(l)
	}
}

// P8.4: Put of what Get returned yields the same bytes.
func TestGetThenPut(t *testing.T) {
	found := 0
	check := func(b []byte) {
		t.Helper()
		l, e := Get(b)
		if e != api.OK {
			return
		}
		found++
		puts(t, l, b, api.OK)
	}
	for _, n := range some() {
		check(plain(n))
	}
	check(plain(some()...))
	b := plain(named(5, 6), shown, named(2, 3))
	for at := range b {
		kept := b[at]
		for c := range 256 {
			b[at] = byte(c)
			check(b)
		}
		b[at] = kept
	}
	for seed := range uint64(100000) {
		b := stirred(int(seed%10)*4, seed)
		for i := range b {
			if i%4 != 0 {
				b[i] = 0
			}
			b[i] %= 5
		}
		check(b)
	}
	if found < 10000 {
		t.Error(found)
	}
}

// P8.1: a result of Put hangs on no other one and not on the notes' Descs.
func TestPutNewMemory(t *testing.T) {
	room := bytes.Repeat([]byte{255}, 100)
	l := []Note{{"ab", 5, room[:5]}, {"", 6, room[50:53]}}
	want := plain(l...)
	first, _ := Put(l)
	second, _ := Put(l)
	for i := range first {
		first[i] = ^first[i]
	}
	// What is appended must not fall into what belongs to somebody else.
	first = append(first, 9, 9, 9)
	third, e := Put(l)
	if !bytes.Equal(second, want) || !bytes.Equal(third, want) || e != api.OK {
		t.Errorf("results of Put share memory: % x, % x", second, third)
	}
	// The padding must not fall into what lies behind a Desc.
	if !bytes.Equal(room, bytes.Repeat([]byte{255}, 100)) {
		t.Errorf("Put changed what lies behind a Desc: % x", room)
	}
	clear(room)
	l[0] = empty
	if !bytes.Equal(second, want) || !bytes.Equal(third, want) {
		t.Errorf("results of Put hang on notes that are changed: % x, % x", second, third)
	}
	if len(first) != len(want)+3 {
		t.Error(len(first))
	}
}

// P8.2: a result of Get hangs on no other one and not on the bytes, nor do two Descs of it hang on each other.
func TestGetNewMemory(t *testing.T) {
	want := []Note{named(3, 5), named(6, 8), shown, named(0, 4)}
	whole := append(plain(want...), 1, 2, 3)
	kept := bytes.Clone(whole)
	b := whole[:len(whole)-3]
	first, _ := Get(b)
	second, _ := Get(b)
	for i := range first {
		for j := range first[i].Desc {
			first[i].Desc[j] = 99
		}
		_ = append(first[i].Desc, 9, 9, 9, 9, 9, 9, 9, 9, 9, 9, 9, 9, 9, 9, 9, 9, 9, 9, 9, 9, 9, 9, 9, 9, 9, 9, 9, 9)
		for j := range first[:i] {
			if !bytes.Equal(first[j].Desc, bytes.Repeat([]byte{99}, len(want[j].Desc))) {
				t.Errorf("Descs of one result share memory: %v", first)
			}
		}
		if i+1 < len(first) && !equal(first[i+1], want[i+1]) {
			t.Errorf("Descs of one result share memory: %v", first)
		}
	}
	clear(first)
	_ = append(first, greatest, greatest)
	third, e := Get(b)
	if !slices.EqualFunc(second, want, equal) || !slices.EqualFunc(third, want, equal) || e != api.OK {
		t.Errorf("results of Get share memory: %v, %v, %d", second, third, e)
	}
	if !bytes.Equal(whole, kept) {
		t.Errorf("Get changed its bytes to % x", whole)
	}
	for i := range whole {
		whole[i] = ^whole[i]
	}
	if !slices.EqualFunc(second, want, equal) || !slices.EqualFunc(third, want, equal) {
		t.Errorf("results of Get hang on bytes that are changed: %v, %v", second, third)
	}
}

// P8.3: a result of Find hangs on no other one and not on the list's Desc.
func TestFindNewMemory(t *testing.T) {
	room := []byte{1, 2, 3, 4, 5, 6, 7, 8}
	l := []Note{{"a", 5, room[:3]}, {"a", 5, room[3:]}}
	first, _ := Find(l, "a", 5)
	second, _ := Find(l, "a", 5)
	for i := range first {
		first[i] = 99
	}
	_ = append(first, 9, 9, 9)
	third, there := Find(l, "a", 5)
	if !bytes.Equal(second, []byte{1, 2, 3}) || !bytes.Equal(third, []byte{1, 2, 3}) || !there {
		t.Errorf("results of Find share memory: % x, % x", second, third)
	}
	if !bytes.Equal(room, []byte{1, 2, 3, 4, 5, 6, 7, 8}) {
		t.Errorf("a result of Find is the list's: % x", room)
	}
	clear(room)
	if !bytes.Equal(second, []byte{1, 2, 3}) || !bytes.Equal(third, []byte{1, 2, 3}) {
		t.Errorf("results of Find hang on a Desc that is changed: % x, % x", second, third)
	}
	finds(t, l, "a", 5, []byte{0, 0, 0}, true)
}

// P8.1, P8.2, P8.3: nothing is left over from a call before, nor from one that fails.
func TestAgain(t *testing.T) {
	for range 3 {
		for _, n := range []Note{greatest, empty, shown, named(7, 2)} {
			puts(t, []Note{n}, plain(n), api.OK)
			puts(t, []Note{n, {Name: "\x00"}}, nil, api.ErrArg)
			puts(t, []Note{n, named(0, 65536)}, nil, api.ErrSize)
			gets(t, plain(n, n), []Note{n, n}, api.OK)
			gets(t, plain(n, n)[:len(plain(n))+5], nil, api.ErrRange)
			gets(t, append(plain(n), make([]byte, 12)...), nil, api.ErrForm)
			finds(t, []Note{n}, n.Name, n.Type, n.Desc, true)
			finds(t, []Note{n}, n.Name+"x", n.Type, nil, false)
		}
	}
}
