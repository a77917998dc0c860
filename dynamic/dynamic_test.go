package dynamic

import (
	"bytes"
	"encoding/binary"
	"math"
	"slices"
	"testing"

	"dormouse/api"
)

// last is the greatest number of 64 bits.
const last = uint64(math.MaxUint64)

// symnum is the tag Symnum as a number of 64 bits.
const symnum = uint64(0x6000000d)

// The tags as the chapter gives them: those of which there may be one entry, and all.
var (
	single = []uint64{5, 6, 7, 8, 10, 14, symnum}
	tags   = []uint64{0, 1, 5, 6, 7, 8, 10, 14, symnum}
)

// entry is a tag and a value.
type entry struct{ tag, value uint64 }

// shown is what the chapter's example tells.
func shown() Info {
	return Info{Needed: []uint64{9}, Strtab: 5, Strsz: 6, Symtab: 7, Symnum: 2}
}

// full is what all entries together tell.
func full() Info {
	return Info{Needed: []uint64{9, 1, 9}, Soname: 2, Strtab: 3, Strsz: 4, Symtab: 5, Symnum: 6, Rela: 7, Relasz: 8}
}

// numbers are some that values may be.
func numbers() []uint64 {
	return []uint64{0, 1, 5, 255, 256, 1<<16 - 1, 1 << 16, 1<<32 - 1, 1 << 32, symnum, 1<<63 - 1, 1 << 63, last - 1, last, 0x0123456789abcdef, 0xfedcba9876543210}
}

// raw are the bytes of entries, each number laid at its own index.
func raw(l ...entry) []byte {
	b := make([]byte, 16*len(l))
	for i, n := range l {
		binary.LittleEndian.PutUint64(b[16*i:], n.tag)
		binary.LittleEndian.PutUint64(b[16*i+8:], n.value)
	}
	return b
}

// entries are those that Put should encode.
func entries(x Info) []entry {
	var l []entry
	for _, place := range x.Needed {
		l = append(l, entry{1, place})
	}
	for _, n := range []struct {
		entry
		goes bool
	}{
		{entry{14, x.Soname}, x.Soname > 0},
		{entry{5, x.Strtab}, true},
		{entry{10, x.Strsz}, true},
		{entry{6, x.Symtab}, x.Symnum > 0},
		{entry{symnum, x.Symnum}, x.Symnum > 0},
		{entry{7, x.Rela}, x.Relasz > 0},
		{entry{8, x.Relasz}, x.Relasz > 0},
		{entry{}, true},
	} {
		if n.goes {
			l = append(l, n.entry)
		}
	}
	return l
}

// others are all fields but Needed.
func others(x Info) [7]uint64 {
	return [7]uint64{x.Soname, x.Strtab, x.Strsz, x.Symtab, x.Symnum, x.Rela, x.Relasz}
}

// same tells whether two tell the same.
func same(x, y Info) bool {
	return slices.Equal(x.Needed, y.Needed) && others(x) == others(y)
}

// told is what Get should tell, found by going back to the entries for each field.
func told(b []byte) (Info, api.Errno) {
	var l []entry
	for at := 0; ; at += 16 {
		if at+16 > len(b) {
			return Info{}, api.ErrRange
		}
		n := entry{binary.LittleEndian.Uint64(b[at:]), binary.LittleEndian.Uint64(b[at+8:])}
		if !slices.Contains(tags, n.tag) {
			return Info{}, api.ErrForm
		}
		if n.tag == 0 {
			break
		}
		if n.tag != 1 && slices.ContainsFunc(l, func(m entry) bool { return m.tag == n.tag }) {
			return Info{}, api.ErrOver
		}
		l = append(l, n)
	}
	count := func(tag uint64) (n int, value uint64) {
		for _, m := range l {
			if m.tag == tag {
				n, value = n+1, m.value
			}
		}
		return n, value
	}
	var x Info
	for _, n := range l {
		if n.tag == 1 {
			x.Needed = append(x.Needed, n.value)
		}
	}
	var strtab, strsz, symtab, syms, rela, relasz int
	_, x.Soname = count(14)
	strtab, x.Strtab = count(5)
	strsz, x.Strsz = count(10)
	symtab, x.Symtab = count(6)
	syms, x.Symnum = count(symnum)
	rela, x.Rela = count(7)
	relasz, x.Relasz = count(8)
	if strtab == 0 || strsz == 0 || symtab != syms || rela != relasz {
		return Info{}, api.ErrForm
	}
	return x, api.OK
}

// wants fails the test unless Get answers this.
func wants(t *testing.T, b []byte, x Info, err api.Errno) {
	t.Helper()
	if got, e := Get(b); !same(got, x) || e != err {
		t.Fatalf("Get of % x: %v, %d; want %v, %d", b, got, e, x, err)
	}
}

// held fails the test unless Get answers what the plain reckoning tells.
func held(t *testing.T, b []byte) api.Errno {
	t.Helper()
	x, e := told(b)
	wants(t, b, x, e)
	return e
}

// infos are all of fields that are 0 and not 0, with any number of Needed.
func infos() []Info {
	var l []Info
	for which := range 1 << 7 {
		for i := range numbers() {
			field := func(n int) uint64 {
				if which>>n&1 == 0 {
					return 0
				}
				return max(1, numbers()[(i+n)%len(numbers())])
			}
			x := Info{Soname: field(0), Strtab: field(1), Strsz: field(2), Symtab: field(3), Symnum: field(4), Rela: field(5), Relasz: field(6)}
			for n := range i % 5 {
				x.Needed = append(x.Needed, numbers()[(i+3*n)%len(numbers())])
			}
			l = append(l, x)
		}
	}
	return l
}

// P5.1: the constants that the chapter gives.
func TestConstants(t *testing.T) {
	got := []uint64{End, Needed, Strtab, Symtab, Relatab, Relasz, Strsz, Soname, Symnum}
	if !slices.Equal(got, tags) {
		t.Error(got)
	}
}

// P5.1, P5.2: bytes written out, one by one.
func TestBytes(t *testing.T) {
	for _, c := range []struct {
		x    Info
		want []byte
	}{
		{Info{}, []byte{
			5, 0, 0, 0, 0, 0, 0, 0, 0, 0, 0, 0, 0, 0, 0, 0,
			10, 0, 0, 0, 0, 0, 0, 0, 0, 0, 0, 0, 0, 0, 0, 0,
			0, 0, 0, 0, 0, 0, 0, 0, 0, 0, 0, 0, 0, 0, 0, 0,
		}},
		{Info{Strtab: 5, Strsz: 6}, []byte{
			5, 0, 0, 0, 0, 0, 0, 0, 5, 0, 0, 0, 0, 0, 0, 0,
			10, 0, 0, 0, 0, 0, 0, 0, 6, 0, 0, 0, 0, 0, 0, 0,
			0, 0, 0, 0, 0, 0, 0, 0, 0, 0, 0, 0, 0, 0, 0, 0,
		}},
		{shown(), []byte{
			1, 0, 0, 0, 0, 0, 0, 0, 9, 0, 0, 0, 0, 0, 0, 0,
			5, 0, 0, 0, 0, 0, 0, 0, 5, 0, 0, 0, 0, 0, 0, 0,
			10, 0, 0, 0, 0, 0, 0, 0, 6, 0, 0, 0, 0, 0, 0, 0,
			6, 0, 0, 0, 0, 0, 0, 0, 7, 0, 0, 0, 0, 0, 0, 0,
			13, 0, 0, 0x60, 0, 0, 0, 0, 2, 0, 0, 0, 0, 0, 0, 0,
			0, 0, 0, 0, 0, 0, 0, 0, 0, 0, 0, 0, 0, 0, 0, 0,
		}},
		{Info{
			Needed: []uint64{0x8877665544332211, 0, last}, Soname: 0x0123456789abcdef, Strtab: last, Strsz: 1 << 63,
			Symtab: 0xfedcba9876543210, Symnum: last, Rela: 1<<63 - 1, Relasz: 0x100,
		}, []byte{
			1, 0, 0, 0, 0, 0, 0, 0, 0x11, 0x22, 0x33, 0x44, 0x55, 0x66, 0x77, 0x88,
			1, 0, 0, 0, 0, 0, 0, 0, 0, 0, 0, 0, 0, 0, 0, 0,
			1, 0, 0, 0, 0, 0, 0, 0, 255, 255, 255, 255, 255, 255, 255, 255,
			14, 0, 0, 0, 0, 0, 0, 0, 0xef, 0xcd, 0xab, 0x89, 0x67, 0x45, 0x23, 0x01,
			5, 0, 0, 0, 0, 0, 0, 0, 255, 255, 255, 255, 255, 255, 255, 255,
			10, 0, 0, 0, 0, 0, 0, 0, 0, 0, 0, 0, 0, 0, 0, 128,
			6, 0, 0, 0, 0, 0, 0, 0, 0x10, 0x32, 0x54, 0x76, 0x98, 0xba, 0xdc, 0xfe,
			13, 0, 0, 0x60, 0, 0, 0, 0, 255, 255, 255, 255, 255, 255, 255, 255,
			7, 0, 0, 0, 0, 0, 0, 0, 255, 255, 255, 255, 255, 255, 255, 127,
			8, 0, 0, 0, 0, 0, 0, 0, 0, 1, 0, 0, 0, 0, 0, 0,
			0, 0, 0, 0, 0, 0, 0, 0, 0, 0, 0, 0, 0, 0, 0, 0,
		}},
	} {
		if b := Put(c.x); !bytes.Equal(b, c.want) {
			t.Errorf("Put of %v: % x; want % x", c.x, b, c.want)
		}
		wants(t, c.want, c.x, api.OK)
	}
}

// P5.1: which entries are left out, and which stay.
func TestPutLeavesOut(t *testing.T) {
	for _, c := range []struct {
		x    Info
		want []entry
	}{
		{Info{}, []entry{{5, 0}, {10, 0}, {0, 0}}},
		{Info{Needed: []uint64{}}, []entry{{5, 0}, {10, 0}, {0, 0}}},
		{Info{Needed: []uint64{0}}, []entry{{1, 0}, {5, 0}, {10, 0}, {0, 0}}},
		{Info{Needed: []uint64{7, 7, 0, 3}}, []entry{{1, 7}, {1, 7}, {1, 0}, {1, 3}, {5, 0}, {10, 0}, {0, 0}}},
		{Info{Soname: 4}, []entry{{14, 4}, {5, 0}, {10, 0}, {0, 0}}},
		{Info{Strtab: 4}, []entry{{5, 4}, {10, 0}, {0, 0}}},
		{Info{Strsz: 4}, []entry{{5, 0}, {10, 4}, {0, 0}}},
		{Info{Symtab: 4}, []entry{{5, 0}, {10, 0}, {0, 0}}},
		{Info{Symnum: 4}, []entry{{5, 0}, {10, 0}, {6, 0}, {symnum, 4}, {0, 0}}},
		{Info{Symtab: 3, Symnum: 4}, []entry{{5, 0}, {10, 0}, {6, 3}, {symnum, 4}, {0, 0}}},
		{Info{Rela: 4}, []entry{{5, 0}, {10, 0}, {0, 0}}},
		{Info{Relasz: 4}, []entry{{5, 0}, {10, 0}, {7, 0}, {8, 4}, {0, 0}}},
		{Info{Rela: 3, Relasz: 4}, []entry{{5, 0}, {10, 0}, {7, 3}, {8, 4}, {0, 0}}},
		{Info{Symtab: last, Rela: last}, []entry{{5, 0}, {10, 0}, {0, 0}}},
		{Info{Symtab: 1, Rela: 2, Relasz: 3}, []entry{{5, 0}, {10, 0}, {7, 2}, {8, 3}, {0, 0}}},
		{Info{Symtab: 1, Symnum: 2, Rela: 3}, []entry{{5, 0}, {10, 0}, {6, 1}, {symnum, 2}, {0, 0}}},
		{Info{Soname: 1 << 63, Symnum: 1 << 63, Relasz: 1 << 63}, []entry{
			{14, 1 << 63}, {5, 0}, {10, 0}, {6, 0}, {symnum, 1 << 63}, {7, 0}, {8, 1 << 63}, {0, 0},
		}},
		{full(), []entry{
			{1, 9}, {1, 1}, {1, 9}, {14, 2}, {5, 3}, {10, 4}, {6, 5}, {symnum, 6}, {7, 7}, {8, 8}, {0, 0},
		}},
	} {
		if b := Put(c.x); !bytes.Equal(b, raw(c.want...)) {
			t.Errorf("Put of %v: % x; want % x", c.x, b, raw(c.want...))
		}
	}
}

// P5.1: all fields, 0 and not 0, held against the entries in their order.
func TestPutEverywhere(t *testing.T) {
	for _, x := range infos() {
		if b := Put(x); !bytes.Equal(b, raw(entries(x)...)) {
			t.Fatalf("Put of %v: % x; want % x", x, b, raw(entries(x)...))
		}
	}
}

// P5.1, P5.3: each bit of each field has its own place.
func TestEachBit(t *testing.T) {
	for bit := range 64 {
		one := uint64(1) << bit
		for _, x := range []Info{
			{Needed: []uint64{one}},
			{Needed: []uint64{^one, one}},
			{Soname: one},
			{Strtab: one},
			{Strsz: one},
			{Symtab: one, Symnum: 1},
			{Symnum: one},
			{Rela: one, Relasz: 1},
			{Relasz: one},
			{Soname: ^one, Strtab: one, Strsz: ^one, Symtab: one, Symnum: ^one, Rela: one, Relasz: ^one},
		} {
			b := Put(x)
			if !bytes.Equal(b, raw(entries(x)...)) {
				t.Errorf("Put of %v: % x", x, b)
			}
			wants(t, b, x, api.OK)
		}
	}
}

// P5.1, P5.2: Needed none, one and many times, in order.
func TestNeeded(t *testing.T) {
	for _, n := range []int{0, 1, 2, 3, 8, 9, 100, 5000} {
		x := Info{Strtab: 1}
		for i := range n {
			x.Needed = append(x.Needed, uint64(i*i%7))
		}
		b := Put(x)
		if len(b) != 16*(n+3) || !bytes.Equal(b, raw(entries(x)...)) {
			t.Errorf("Put of %d Needed: %d bytes, % x", n, len(b), b[:min(len(b), 100)])
		}
		wants(t, b, x, api.OK)
	}
	// They need not stand together, nor at the beginning.
	wants(t, raw(entry{5, 1}, entry{1, 4}, entry{10, 2}, entry{1, 3}, entry{1, 4}, entry{0, 0}, entry{1, 5}),
		Info{Needed: []uint64{4, 3, 4}, Strtab: 1, Strsz: 2}, api.OK)
}

// P5.2: the chapter's examples.
func TestGetExamples(t *testing.T) {
	b := Put(shown())
	if len(b) != 96 {
		t.Fatal(len(b))
	}
	wants(t, b, shown(), api.OK)
	wants(t, b[:80], Info{}, api.ErrRange)
	b[0] = 2
	wants(t, b, Info{}, api.ErrForm)
}

// P5.2: no bytes, too few of an entry, and an End entry alone.
func TestGetFew(t *testing.T) {
	wants(t, nil, Info{}, api.ErrRange)
	for n := range 16 {
		for c := range 256 {
			wants(t, bytes.Repeat([]byte{byte(c)}, n), Info{}, api.ErrRange)
		}
	}
	wants(t, make([]byte, 16), Info{}, api.ErrForm)
	wants(t, make([]byte, 17), Info{}, api.ErrForm)
	wants(t, make([]byte, 1000), Info{}, api.ErrForm)
	for _, tag := range tags[1:] {
		wants(t, raw(entry{tag, 1}), Info{}, api.ErrRange)
	}
}

// P5.2: bytes that end within an entry or ahead of the End entry, whatever lies behind the slice's end.
func TestGetCut(t *testing.T) {
	for _, x := range []Info{{}, shown(), full(), {Soname: 1, Relasz: 2}} {
		whole := Put(x)
		for n := range whole {
			wants(t, whole[:n], Info{}, api.ErrRange)
			wants(t, bytes.Clone(whole[:n]), Info{}, api.ErrRange)
		}
		wants(t, whole, x, api.OK)
	}
}

// P5.2: the bytes behind the first End entry don't count, whatever its value is.
func TestGetBehind(t *testing.T) {
	for _, x := range []Info{{}, shown(), full()} {
		for _, value := range append(numbers(), 2, 16, 96) {
			b := Put(x)
			binary.LittleEndian.PutUint64(b[len(b)-8:], value)
			for _, behind := range [][]byte{
				nil, {0}, {255}, make([]byte, 15), make([]byte, 16), make([]byte, 40), Put(full()), b,
				raw(entry{2, 2}), raw(entry{1, 77}, entry{0, 0}), raw(entry{14, 77}), raw(entry{5, 77}, entry{5, 78}),
				bytes.Repeat([]byte{255}, 100),
			} {
				wants(t, slices.Concat(b, behind), x, api.OK)
			}
		}
	}
	// Nor do they make up for entries that are left out.
	wants(t, raw(entry{0, 0}, entry{5, 1}, entry{10, 2}, entry{0, 0}), Info{}, api.ErrForm)
	wants(t, raw(entry{5, 1}, entry{0, 0}, entry{10, 2}, entry{0, 0}), Info{}, api.ErrForm)
	wants(t, raw(entry{5, 1}, entry{10, 2}, entry{6, 3}, entry{0, 0}, entry{symnum, 2}), Info{}, api.ErrForm)
}

// wrongTags are none of the constants; all are near one, or agree with one in many bits.
func wrongTags() []uint64 {
	l := []uint64{0x6000000e, 0x6000000c, 0x7000000d, 0x0d, 0x6ffffef5, 1 << 32, 1 << 63, last, last - 1}
	for tag := range uint64(300) {
		l = append(l, tag, -tag-1, 1<<32+tag, 1<<63+tag, symnum-150+tag)
	}
	for _, tag := range tags {
		for bit := range 64 {
			l = append(l, tag^1<<bit, tag|1<<bit, ^tag^1<<bit)
		}
		l = append(l, tag-1, tag+1, ^tag, -tag-1, tag<<8, tag<<32, tag<<32|tag, tag<<56)
	}
	return slices.DeleteFunc(l, func(tag uint64) bool { return slices.Contains(tags, tag) })
}

// P5.2: ErrForm of a tag that is none of the constants, wherever it stands ahead of the End entry.
func TestGetWrongTags(t *testing.T) {
	good := entries(full())
	for _, tag := range wrongTags() {
		wants(t, raw(entry{tag, 0}), Info{}, api.ErrForm)
		wants(t, raw(entry{tag, 0})[:15], Info{}, api.ErrRange)
		for at := range good {
			wants(t, raw(slices.Insert(slices.Clone(good), at, entry{tag, 3})...), Info{}, api.ErrForm)
		}
		wants(t, raw(append(slices.Clone(good), entry{tag, 3})...), full(), api.OK)
	}
}

// P5.2: each byte of each tag, changed to every value.
func TestGetEachByte(t *testing.T) {
	found := map[api.Errno]int{}
	for _, x := range []Info{{}, shown(), full()} {
		b := Put(x)
		for at := range b {
			kept := b[at]
			for c := range 256 {
				b[at] = byte(c)
				found[held(t, b)]++
			}
			b[at] = kept
		}
	}
	for _, e := range []api.Errno{api.OK, api.ErrRange, api.ErrForm, api.ErrOver} {
		if found[e] == 0 {
			t.Errorf("%d was not found", e)
		}
	}
}

// P5.2: ErrOver of each tag that occurs twice, with the same and another value, next to the first and further on.
func TestGetTwice(t *testing.T) {
	good := entries(full())
	for _, tag := range single {
		first := slices.IndexFunc(good, func(n entry) bool { return n.tag == tag })
		for _, value := range []uint64{good[first].value, 0, 1, 77, last} {
			for at := range good {
				wants(t, raw(slices.Insert(slices.Clone(good), at, entry{tag, value})...), Info{}, api.ErrOver)
			}
			wants(t, raw(append(slices.Clone(good), entry{tag, value})...), full(), api.OK)
		}
		for _, value := range []uint64{0, 1} {
			wants(t, raw(entry{tag, value}, entry{tag, value}), Info{}, api.ErrOver)
			wants(t, raw(entry{tag, value}, entry{tag, 1 - value}), Info{}, api.ErrOver)
			wants(t, raw(entry{tag, value}, entry{tag, value}, entry{tag, value}, entry{}), Info{}, api.ErrOver)
		}
		wants(t, raw(entry{tag, 1}, entry{tag, 1})[:31], Info{}, api.ErrRange)
	}
}

// P5.2: which entries there are, each alone, each left out, and all others, their values 0 and not 0.
func TestGetWhichThere(t *testing.T) {
	accepted := 0
	for which := range 1 << 7 {
		for zero := range 1 << 7 {
			for _, needed := range [][]entry{nil, {{1, 0}}, {{1, 4}, {1, 4}}} {
				l := slices.Clone(needed)
				for i, tag := range single {
					if which>>i&1 == 1 {
						l = append(l, entry{tag, uint64(10+i) * uint64(1-zero>>i&1)})
					}
				}
				if held(t, raw(append(l, entry{})...)) == api.OK && zero == 0 && needed == nil {
					accepted++
				}
			}
		}
	}
	// Strtab and Strsz are there; with or without Soname, the two of symbols and the two of relocations.
	if accepted != 8 {
		t.Errorf("%d were accepted", accepted)
	}
}

// P5.2: entries without the one they go with, written out.
func TestGetAlone(t *testing.T) {
	a, b := entry{5, 1}, entry{10, 2}
	for _, c := range []struct {
		l []entry
		x Info
		e api.Errno
	}{
		{[]entry{a}, Info{}, api.ErrForm},
		{[]entry{b}, Info{}, api.ErrForm},
		{[]entry{a, b}, Info{Strtab: 1, Strsz: 2}, api.OK},
		{[]entry{b, a}, Info{Strtab: 1, Strsz: 2}, api.OK},
		{[]entry{{5, 0}, {10, 0}}, Info{}, api.OK},
		{[]entry{{5, 0}}, Info{}, api.ErrForm},
		{[]entry{{10, 0}}, Info{}, api.ErrForm},
		{[]entry{{1, 0}}, Info{}, api.ErrForm},
		{[]entry{{14, 3}}, Info{}, api.ErrForm},
		{[]entry{{14, 3}, a, b}, Info{Soname: 3, Strtab: 1, Strsz: 2}, api.OK},
		{[]entry{{14, 0}, a, b}, Info{Strtab: 1, Strsz: 2}, api.OK},
		{[]entry{{6, 3}, a, b}, Info{}, api.ErrForm},
		{[]entry{{6, 0}, a, b}, Info{}, api.ErrForm},
		{[]entry{{symnum, 3}, a, b}, Info{}, api.ErrForm},
		{[]entry{{symnum, 0}, a, b}, Info{}, api.ErrForm},
		{[]entry{{6, 3}, {symnum, 4}}, Info{}, api.ErrForm},
		{[]entry{{6, 3}, {symnum, 4}, a, b}, Info{Strtab: 1, Strsz: 2, Symtab: 3, Symnum: 4}, api.OK},
		{[]entry{{6, 3}, {symnum, 0}, a, b}, Info{Strtab: 1, Strsz: 2, Symtab: 3}, api.OK},
		{[]entry{{6, 0}, {symnum, 4}, a, b}, Info{Strtab: 1, Strsz: 2, Symnum: 4}, api.OK},
		{[]entry{{7, 3}, a, b}, Info{}, api.ErrForm},
		{[]entry{{7, 0}, a, b}, Info{}, api.ErrForm},
		{[]entry{{8, 3}, a, b}, Info{}, api.ErrForm},
		{[]entry{{8, 0}, a, b}, Info{}, api.ErrForm},
		{[]entry{{7, 3}, {8, 4}}, Info{}, api.ErrForm},
		{[]entry{{7, 3}, {8, 4}, a, b}, Info{Strtab: 1, Strsz: 2, Rela: 3, Relasz: 4}, api.OK},
		{[]entry{{7, 3}, {8, 0}, a, b}, Info{Strtab: 1, Strsz: 2, Rela: 3}, api.OK},
		{[]entry{{7, 0}, {8, 4}, a, b}, Info{Strtab: 1, Strsz: 2, Relasz: 4}, api.OK},
		{[]entry{{6, 3}, {8, 4}, a, b}, Info{}, api.ErrForm},
		{[]entry{{7, 3}, {symnum, 4}, a, b}, Info{}, api.ErrForm},
		{[]entry{{6, 3}, {symnum, 4}, {7, 5}, a, b}, Info{}, api.ErrForm},
		{[]entry{{6, 3}, {symnum, 4}, {8, 5}, a, b}, Info{}, api.ErrForm},
		{[]entry{{7, 3}, {8, 4}, {6, 5}, a, b}, Info{}, api.ErrForm},
	} {
		wants(t, raw(append(c.l, entry{})...), c.x, c.e)
		// Without the End entry it isn't asked whether all are there.
		wants(t, raw(c.l...), Info{}, api.ErrRange)
	}
}

// P5.2: entries of which one has the value 0 occur before as others do.
func TestGetZeroTwice(t *testing.T) {
	for _, tag := range single {
		wants(t, raw(entry{tag, 0}, entry{5, 0}, entry{tag, 0}, entry{}), Info{}, api.ErrOver)
		wants(t, raw(entry{tag, 0}, entry{1, 0}, entry{1, 0}, entry{tag, 5}, entry{}), Info{}, api.ErrOver)
		wants(t, raw(entry{tag, 5}, entry{1, 0}, entry{tag, 0}, entry{}), Info{}, api.ErrOver)
	}
}

// permute calls f with all orders of a list.
func permute(l []entry, n int, f func([]entry)) {
	if n == len(l) {
		f(l)
		return
	}
	for i := n; i < len(l); i++ {
		l[n], l[i] = l[i], l[n]
		permute(l, n+1, f)
		l[n], l[i] = l[i], l[n]
	}
}

// P5.2: the entries may stand in any order.
func TestGetOrders(t *testing.T) {
	l := []entry{{5, 11}, {6, 12}, {7, 13}, {8, 14}, {10, 15}, {14, 16}, {symnum, 17}, {1, 18}}
	want := Info{Needed: []uint64{18}, Soname: 16, Strtab: 11, Strsz: 15, Symtab: 12, Symnum: 17, Rela: 13, Relasz: 14}
	orders := 0
	permute(l, 0, func(l []entry) {
		orders++
		wants(t, raw(append(slices.Clone(l), entry{})...), want, api.OK)
	})
	if orders != 40320 {
		t.Error(orders)
	}
}

// P5.2: of several errors that of the first entry is told, and of one entry the first.
func TestGetFirstError(t *testing.T) {
	strtab, strsz, end, wrong := entry{5, 1}, entry{10, 2}, entry{0, 0}, entry{2, 2}
	for _, c := range []struct {
		l    []entry
		less int // bytes that are cut off
		e    api.Errno
	}{
		{[]entry{wrong}, 1, api.ErrRange},
		{[]entry{wrong}, 8, api.ErrRange},
		{[]entry{wrong}, 0, api.ErrForm},
		{[]entry{wrong, strtab}, 1, api.ErrForm},
		{[]entry{strtab, wrong}, 1, api.ErrRange},
		{[]entry{strtab, strtab}, 1, api.ErrRange},
		{[]entry{strtab, strtab}, 0, api.ErrOver},
		{[]entry{strtab, strtab, wrong}, 0, api.ErrOver},
		{[]entry{strtab, strtab, wrong}, 1, api.ErrOver},
		{[]entry{strtab, wrong, strtab}, 0, api.ErrForm},
		{[]entry{wrong, strtab, strtab}, 0, api.ErrForm},
		{[]entry{wrong, wrong}, 0, api.ErrForm},
		{[]entry{strtab, strtab, end}, 0, api.ErrOver},
		{[]entry{strtab, end, strtab}, 0, api.ErrForm},
		{[]entry{strtab, end}, 1, api.ErrRange},
		{[]entry{strtab, end}, 15, api.ErrRange},
		{[]entry{end, wrong}, 0, api.ErrForm},
		{[]entry{strtab, strsz, end, strtab, wrong}, 3, api.OK},
		{[]entry{{6, 1}, strtab, strtab, strsz, end}, 0, api.ErrOver},
		{[]entry{{6, 1}, strtab, strsz, end}, 5, api.ErrRange},
		{[]entry{{7, 1}, {1, 0}, {7, 1}}, 0, api.ErrOver},
	} {
		b := raw(c.l...)
		b = b[:len(b)-c.less]
		_, err := told(b)
		if err != c.e {
			t.Fatalf("%v less %d is reckoned as %d; want %d", c.l, c.less, err, c.e)
		}
		held(t, b)
	}
}

// P5.2: all short lists of entries, with a cut at their end and without one.
func TestGetEverywhere(t *testing.T) {
	alphabet := append([]uint64{2}, tags...)
	found := map[api.Errno]int{}
	var extend func(l []entry, left int)
	extend = func(l []entry, left int) {
		whole := raw(l...)
		found[held(t, whole)]++
		found[held(t, append(raw(l...), raw(entry{})...))]++
		if len(whole) > 0 {
			found[held(t, whole[:len(whole)-1])]++
		}
		if left == 0 {
			return
		}
		for _, tag := range alphabet {
			extend(append(slices.Clone(l), entry{tag, uint64(len(l))}), left-1)
		}
	}
	extend(nil, 5)
	for _, e := range []api.Errno{api.OK, api.ErrRange, api.ErrForm, api.ErrOver} {
		if found[e] < 1000 {
			t.Errorf("%d was found %d times", e, found[e])
		}
	}
}

// P5.3: Get tells what Put encoded, whatever bytes follow; what Put leaves out is 0.
func TestPutThenGet(t *testing.T) {
	exact := 0
	for _, x := range infos() {
		want := x
		if x.Symnum == 0 {
			want.Symtab = 0
		}
		if x.Relasz == 0 {
			want.Rela = 0
		}
		if same(want, x) {
			exact++
		}
		b := Put(x)
		wants(t, b, want, api.OK)
		wants(t, append(b, 1, 2, 3), want, api.OK)
		got, _ := Get(b)
		if again := Put(got); !bytes.Equal(again, b[:len(again)]) || len(again) != len(b) {
			t.Fatalf("Put of what Get tells of % x: % x", b, again)
		}
	}
	if exact < 1000 {
		t.Errorf("only %d need nothing left out", exact)
	}
}

// P5.1: a result of Put hangs on no other one, and what is passed stays as it is.
func TestPutNewMemory(t *testing.T) {
	x := full()
	room := []uint64{9, 1, 9, 77, 78}
	x.Needed = room[:3]
	first, second := Put(x), Put(x)
	for i := range first {
		first[i] = ^first[i]
	}
	// What is appended must not fall into what belongs to somebody else.
	first = append(first, 9, 9, 9)
	third := Put(x)
	want := raw(entries(full())...)
	if !bytes.Equal(second, want) || !bytes.Equal(third, want) {
		t.Errorf("results of Put share memory: % x, % x", second, third)
	}
	if !same(x, full()) || !slices.Equal(room, []uint64{9, 1, 9, 77, 78}) {
		t.Errorf("Put changed what was passed to %v, %v", x, room)
	}
	room[0] = 5
	if !bytes.Equal(third, want) {
		t.Error("a result of Put hangs on what was passed")
	}
}

// P5.2: a result of Get hangs on no other one and not on the bytes, and those stay as they are.
func TestGetNewMemory(t *testing.T) {
	b := append(Put(full()), 1, 2, 3)
	kept := bytes.Clone(b)
	first, _ := Get(b)
	second, _ := Get(b)
	if !bytes.Equal(b, kept) {
		t.Errorf("Get changed its bytes to % x", b)
	}
	for i := range first.Needed {
		first.Needed[i] = 77
	}
	first.Needed = append(first.Needed, 78)
	first.Soname, first.Strtab, first.Relasz = 79, 80, 81
	third, e := Get(b)
	if !same(second, full()) || !same(third, full()) || e != api.OK {
		t.Errorf("results of Get share memory: %v, %v, %d", second, third, e)
	}
	if !bytes.Equal(b, kept) {
		t.Errorf("a result of Get shares memory with its bytes: % x", b)
	}
	for i := range b {
		b[i] = ^b[i]
	}
	if !same(second, full()) || !same(third, full()) {
		t.Errorf("results of Get hang on bytes that are changed: %v, %v", second, third)
	}
	for _, wrong := range []int{0, 16, 160} {
		b := bytes.Clone(kept)
		b[wrong] = 99
		was := bytes.Clone(b)
		if held(t, b); !bytes.Equal(b, was) {
			t.Errorf("Get changed its bytes to % x", b)
		}
	}
}

// P5.1, P5.2: nothing is left over from a call before.
func TestAgain(t *testing.T) {
	for range 3 {
		for _, x := range []Info{full(), {}, shown(), {Soname: 1}, {Symtab: 1, Rela: 2}} {
			if b := Put(x); !bytes.Equal(b, raw(entries(x)...)) {
				t.Errorf("Put of %v: % x", x, b)
			}
			held(t, raw(entries(x)...))
			held(t, raw(entry{5, 1}, entry{14, 3}, entry{}))
			held(t, raw(entry{1, 1}, entry{2, 3}, entry{}))
			held(t, raw(entry{5, 1}, entry{5, 1}))
			held(t, raw(entry{5, 1}, entry{10, 1}))
		}
	}
}
