package segs

import (
	"bytes"
	"encoding/binary"
	"math"
	"math/big"
	"slices"
	"testing"

	"dormouse/api"
)

// last is the greatest number of 64 bits.
const last = uint64(math.MaxUint64)

// shown is the segment of the chapter's examples.
var shown = api.Seg{Type: api.SegLoad, Flags: 5, Off: 256, Vaddr: 256, File: 100, Mem: 300, Align: 256}

// numbers are some that the fields of 64 bits may be.
func numbers() []uint64 {
	return []uint64{0, 1, 255, 256, 257, 1<<16 - 1, 1 << 16, 1<<32 - 1, 1 << 32, 1<<32 + 1, 1<<63 - 1, 1 << 63, last - 1, last, 0x0123456789abcdef, 0xfedcba9876543210}
}

// seg is a segment of so many numbers, in the order of its fields.
func seg(kind, flags uint32, off, vaddr, file, mem, align uint64) api.Seg {
	return api.Seg{Type: kind, Flags: flags, Off: off, Vaddr: vaddr, File: file, Mem: mem, Align: align}
}

// some are segments with numbers of each kind in their fields.
func some() []api.Seg {
	x := numbers()
	at := func(i int) uint64 { return x[i%len(x)] }
	l := []api.Seg{{}, shown, seg(math.MaxUint32, math.MaxUint32, last, last, last, last, last)}
	for i := range x {
		for j := range x {
			l = append(l, api.Seg{Type: uint32(at(i)), Flags: uint32(at(j)), Off: at(i + j), Vaddr: at(i), File: at(j), Mem: at(i + 2*j), Align: at(2*i + j)})
		}
	}
	return l
}

// plain are the bytes of a segment, each number laid at its own index.
func plain(s api.Seg) []byte {
	b := make([]byte, 56)
	little := binary.LittleEndian
	little.PutUint32(b, s.Type)
	little.PutUint32(b[4:], s.Flags)
	little.PutUint64(b[8:], s.Off)
	little.PutUint64(b[16:], s.Vaddr)
	little.PutUint64(b[24:], s.Vaddr)
	little.PutUint64(b[32:], s.File)
	little.PutUint64(b[40:], s.Mem)
	little.PutUint64(b[48:], s.Align)
	return b
}

// plains are the bytes of segments, one behind the other.
func plains(l []api.Seg) []byte {
	var b []byte
	for _, s := range l {
		b = append(b, plain(s)...)
	}
	return b
}

// told is what Get should tell of 56 bytes or more.
func told(b []byte) (api.Seg, api.Errno) {
	little := binary.LittleEndian
	if !bytes.Equal(b[16:24], b[24:32]) {
		return api.Seg{}, api.ErrForm
	}
	return api.Seg{
		Type:  little.Uint32(b),
		Flags: little.Uint32(b[4:]),
		Off:   little.Uint64(b[8:]),
		Vaddr: little.Uint64(b[16:]),
		File:  little.Uint64(b[32:]),
		Mem:   little.Uint64(b[40:]),
		Align: little.Uint64(b[48:]),
	}, api.OK
}

// P4.1: how many bytes a segment has.
func TestSize(t *testing.T) {
	if Size != 56 {
		t.Error(Size)
	}
}

// P4.1: all 56 bytes, written out.
func TestPutAndGet(t *testing.T) {
	for _, c := range []struct {
		s    api.Seg
		want []byte
	}{
		{api.Seg{}, make([]byte, 56)},
		{shown, []byte{
			1, 0, 0, 0, 5, 0, 0, 0, 0, 1, 0, 0, 0, 0, 0, 0,
			0, 1, 0, 0, 0, 0, 0, 0, 0, 1, 0, 0, 0, 0, 0, 0,
			100, 0, 0, 0, 0, 0, 0, 0, 0x2c, 1, 0, 0, 0, 0, 0, 0,
			0, 1, 0, 0, 0, 0, 0, 0,
		}},
		{api.Seg{
			Type: 0x04030201, Flags: 0x08070605, Off: 0x100f0e0d0c0b0a09, Vaddr: 0x1817161514131211,
			File: 0x2827262524232221, Mem: 0x302f2e2d2c2b2a29, Align: 0x3837363534333231,
		}, []byte{
			0x01, 0x02, 0x03, 0x04, 0x05, 0x06, 0x07, 0x08, 0x09, 0x0a, 0x0b, 0x0c, 0x0d, 0x0e, 0x0f, 0x10,
			0x11, 0x12, 0x13, 0x14, 0x15, 0x16, 0x17, 0x18, 0x11, 0x12, 0x13, 0x14, 0x15, 0x16, 0x17, 0x18,
			0x21, 0x22, 0x23, 0x24, 0x25, 0x26, 0x27, 0x28, 0x29, 0x2a, 0x2b, 0x2c, 0x2d, 0x2e, 0x2f, 0x30,
			0x31, 0x32, 0x33, 0x34, 0x35, 0x36, 0x37, 0x38,
		}},
		{seg(math.MaxUint32, math.MaxUint32, last, last, last, last, last), bytes.Repeat([]byte{255}, 56)},
	} {
		if b := Put(c.s); !bytes.Equal(b, c.want) {
			t.Errorf("Put of %v: % x; want % x", c.s, b, c.want)
		}
		if s, e := Get(c.want); s != c.s || e != api.OK {
			t.Errorf("Get of % x: %v, %d; want %v", c.want, s, e, c.s)
		}
	}
}

// P4.1: numbers of each kind in all fields, held against bytes laid at their indices.
func TestPutEverywhere(t *testing.T) {
	for _, s := range some() {
		if b := Put(s); !bytes.Equal(b, plain(s)) {
			t.Fatalf("Put of %v: % x; want % x", s, b, plain(s))
		}
	}
}

// P4.1: each bit of each field has its own place.
func TestPutEachBit(t *testing.T) {
	for bit := range 64 {
		x := uint64(1) << bit
		for _, s := range []api.Seg{
			{Type: uint32(x)}, {Flags: uint32(x)}, {Off: x}, {Vaddr: x}, {File: x}, {Mem: x}, {Align: x},
			seg(uint32(^x), uint32(x), ^x, x, ^x, x, ^x),
		} {
			if b := Put(s); !bytes.Equal(b, plain(s)) {
				t.Errorf("Put of %v: % x; want % x", s, b, plain(s))
			}
			if got, e := Get(plain(s)); got != s || e != api.OK {
				t.Errorf("Get of % x: %v, %d; want %v", plain(s), got, e, s)
			}
		}
	}
}

// P4.1: ErrRange of up to 55 bytes, whatever they are and whatever lies behind the slice's end.
func TestGetShort(t *testing.T) {
	if s, e := Get(nil); s != (api.Seg{}) || e != api.ErrRange {
		t.Error(s, e)
	}
	apart := plain(shown)
	apart[24]++
	for _, whole := range [][]byte{plain(shown), apart, make([]byte, 56), bytes.Repeat([]byte{255}, 56)} {
		for n := range 56 {
			for _, b := range [][]byte{whole[:n], bytes.Clone(whole[:n]), whole[56-n:]} {
				if s, e := Get(b); s != (api.Seg{}) || e != api.ErrRange {
					t.Errorf("Get of % x: %v, %d", b, s, e)
				}
			}
		}
	}
}

// P4.1: every other value of each one of the 56 bytes; ErrForm just where the copies of Vaddr are apart.
func TestGetEachByte(t *testing.T) {
	for _, s := range []api.Seg{{}, shown, seg(math.MaxUint32, math.MaxUint32, last, last, last, last, last), seg(1, 2, 3, 0x1122334455667788, 5, 6, 7)} {
		for at := range 56 {
			for c := range 256 {
				b := plain(s)
				same := b[at] == byte(c)
				b[at] = byte(c)
				want, err := told(b)
				if (err == api.OK) != (same || at < 16 || at >= 32) {
					t.Fatal("the test's own reckoning is wrong", at, c, err)
				}
				if got, e := Get(b); got != want || e != err {
					t.Fatalf("Get of %v with %d at %d: %v, %d; want %v, %d", s, c, at, got, e, want, err)
				}
			}
		}
	}
}

// P4.1: the copies of Vaddr are apart in two bytes, so that sums of them agree.
func TestGetApart(t *testing.T) {
	for i := range 8 {
		for j := range 8 {
			b := plain(api.Seg{Type: 1, Vaddr: 0x0202020202020202})
			b[16+i]++
			b[24+j]++
			_, err := told(b)
			if s, e := Get(b); e != err || (err != api.OK && s != (api.Seg{})) {
				t.Errorf("Get with one more at %d and %d: %v, %d; want %d", 16+i, 24+j, s, e, err)
			}
			b[24+j] -= 2
			if s, e := Get(b); s != (api.Seg{}) || e != api.ErrForm {
				t.Errorf("Get with one more at %d and one less at %d: %v, %d", 16+i, 24+j, s, e)
			}
		}
	}
}

// rows are n segments of which each is another.
func rows(n int) []api.Seg {
	l := make([]api.Seg, n)
	for i := range l {
		x := uint64(i)
		l[i] = seg(uint32(i), uint32(2*i), x+3, last-x, x<<40, x*7, x+1)
	}
	return l
}

// P4.1: up to 64 segments from a place on, with bytes ahead of and behind them.
func TestTable(t *testing.T) {
	for n := range 65 {
		for _, at := range []int{0, 1, 7, 55, 56, 57, 64, 300} {
			for _, behind := range []int{0, 1, 55, 56, 100} {
				l := rows(n)
				b := slices.Concat(bytes.Repeat([]byte{7}, at), plains(l), bytes.Repeat([]byte{9}, behind))
				if got, e := Table(b, uint64(at), n); !slices.Equal(got, l) || e != api.OK {
					t.Fatalf("Table at %d of %d with %d bytes behind: %v, %d", at, n, behind, got, e)
				}
			}
		}
	}
}

// P4.1: which of several errors is told: ErrArg, then ErrRange, then those of Get.
func TestTableWrong(t *testing.T) {
	all := plains(rows(66)) // 3696 bytes
	for _, c := range []struct {
		size int
		at   uint64
		n    int
		e    api.Errno
	}{
		{0, 0, 0, api.OK},
		{0, 1, 0, api.ErrRange},
		{0, last, 0, api.ErrRange},
		{0, 0, 1, api.ErrRange},
		{0, 0, -1, api.ErrArg},
		{0, 0, 65, api.ErrArg},
		{0, 1, -1, api.ErrArg},
		{0, last, 65, api.ErrArg},
		{55, 0, 0, api.OK},
		{55, 55, 0, api.OK},
		{55, 56, 0, api.ErrRange},
		{55, 0, 1, api.ErrRange},
		{56, 0, 1, api.OK},
		{56, 1, 1, api.ErrRange},
		{56, 56, 0, api.OK},
		{56, 56, 1, api.ErrRange},
		{56, 57, 0, api.ErrRange},
		{56, 57, 1, api.ErrRange},
		{56, 0, 2, api.ErrRange},
		{57, 0, 1, api.OK},
		{111, 0, 2, api.ErrRange},
		{112, 0, 2, api.OK},
		{112, 56, 1, api.OK},
		{112, 57, 1, api.ErrRange},
		{112, 56, 2, api.ErrRange},
		{112, 112, 0, api.OK},
		{112, 113, 0, api.ErrRange},
		{3583, 0, 64, api.ErrRange},
		{3584, 0, 64, api.OK},
		{3584, 1, 64, api.ErrRange},
		{3640, 0, 64, api.OK},
		{3640, 56, 64, api.OK},
		{3640, 57, 64, api.ErrRange},
		{3640, 0, 65, api.ErrArg},
		{3696, 0, 66, api.ErrArg},
		{3696, 0, 1000, api.ErrArg},
		{3696, 0, math.MaxInt, api.ErrArg},
		{3696, 0, math.MinInt, api.ErrArg},
		{3696, 0, -64, api.ErrArg},
		{3696, 0, 1 << 32, api.ErrArg},
		{3696, 0, 1<<32 + 1, api.ErrArg},
		{3696, 0, 1<<61 + 1, api.ErrArg},
		{3696, 0, -1<<61 + 1, api.ErrArg},
		{3696, 3696, 0, api.OK},
		{3696, 3697, 0, api.ErrRange},
		{3696, last, 0, api.ErrRange},
		{3696, last, 1, api.ErrRange},
		{3696, last - 55, 1, api.ErrRange},
		{3696, last - 54, 1, api.ErrRange},
		{3696, last - 111, 2, api.ErrRange},
		{3696, last - 3583, 64, api.ErrRange},
		{3696, last - 3584, 64, api.ErrRange},
		{3696, 1 << 63, 1, api.ErrRange},
		{3696, 1 << 32, 1, api.ErrRange},
		{3696, 1<<32 + 56, 0, api.ErrRange},
	} {
		l, e := Table(all[:c.size], c.at, c.n)
		if e != c.e || (e != api.OK && len(l) != 0) || (e == api.OK && len(l) != c.n) {
			t.Errorf("Table of %d bytes at %d of %d: %d segments, %d; want %d", c.size, c.at, c.n, len(l), e, c.e)
		}
	}
}

// P4.1: all n near those that may be, at all places near a few bytes' end.
func TestTableNear(t *testing.T) {
	b := plains(rows(3))
	for n := -70; n <= 140; n++ {
		for at := range uint64(200) {
			var want []api.Seg
			err := api.OK
			switch {
			case n < 0 || n >= 65:
				err = api.ErrArg
			case at+56*uint64(n) > 168:
				err = api.ErrRange
			}
			for i := range n {
				if err != api.OK {
					break
				}
				var s api.Seg
				s, err = told(b[at+56*uint64(i):])
				want = append(want, s)
			}
			if err != api.OK {
				want = nil
			}
			if l, e := Table(b, at, n); !slices.Equal(l, want) || e != err {
				t.Fatalf("Table at %d of %d: %v, %d; want %v, %d", at, n, l, e, want, err)
			}
		}
	}
}

// P4.1: ErrForm of one malformed segment, the first, one between or the last, and no other segments beside it.
func TestTableMalformed(t *testing.T) {
	for n := 1; n <= 64; n++ {
		for _, bad := range []int{0, n / 2, n - 1, n} {
			b := append(plains(rows(n)), plain(shown)...)
			b[56*bad+31]++
			want, err := rows(n), api.OK
			if bad < n {
				want, err = nil, api.ErrForm
			}
			if l, e := Table(b, 0, n); !slices.Equal(l, want) || e != err {
				t.Errorf("Table of %d with %d malformed: %v, %d; want %d", n, bad, l, e, err)
			}
			// Bytes that aren't there are told ahead of those that are malformed.
			if l, e := Table(b[:56*n-1], 0, n); len(l) != 0 || e != api.ErrRange {
				t.Errorf("Table of %d with %d malformed and a byte too few: %v, %d", n, bad, l, e)
			}
			if l, e := Table(b, 0, n+64); len(l) != 0 || e != api.ErrArg {
				t.Errorf("Table of %d with %d malformed: %v, %d", n+64, bad, l, e)
			}
		}
	}
}

// load is a SegLoad whose address is that in the file.
func load(off, file, mem uint64) api.Seg {
	return api.Seg{Type: api.SegLoad, Off: off, Vaddr: off, File: file, Mem: mem}
}

// part is a segment of another kind whose address is that in the file.
func part(kind uint32, off, file uint64) api.Seg {
	return api.Seg{Type: kind, Off: off, Vaddr: off, File: file, Mem: file}
}

// check holds what Check tells of a list against what it should tell.
func check(t *testing.T, l []api.Seg, size uint64, want api.Errno) {
	t.Helper()
	if e := Check(l, size); e != want {
		t.Errorf("Check of %v for %d: %d; want %d", l, size, e, want)
	}
}

// P4.2: the chapter's examples.
func TestCheckShown(t *testing.T) {
	check(t, []api.Seg{shown}, 1000, api.OK)
	check(t, []api.Seg{shown}, 300, api.ErrRange)
	check(t, []api.Seg{shown}, 356, api.OK)
	check(t, []api.Seg{shown}, 355, api.ErrRange)
	check(t, []api.Seg{shown, shown}, 1000, api.ErrOver)
	check(t, []api.Seg{{Type: api.SegLoad, File: 10, Mem: 5}}, 1000, api.ErrForm)
	check(t, nil, 0, api.OK)
	check(t, []api.Seg{}, last, api.OK)
}

// P4.2: which numbers are segment types.
func TestCheckTypes(t *testing.T) {
	kinds := []uint32{1 << 8, 1<<8 + 1, 1<<16 + 1, 1<<16 + 4, 1<<24 + 7, 1 << 31, 1<<31 + 1, math.MaxUint32, 0x6474e551}
	for kind := range uint32(300) {
		kinds = append(kinds, kind)
	}
	for _, kind := range kinds {
		want := api.ErrForm
		if slices.Contains([]uint32{0, 1, 2, 4, 7}, kind) {
			want = api.OK
		}
		s := load(0, 0, 1)
		s.Type = kind
		check(t, []api.Seg{s}, 10, want)
		check(t, []api.Seg{load(0, 0, 1), {}, {}}, 10, api.OK)
		check(t, []api.Seg{{}, s}, 10, want)
	}
}

// P4.2: Flags up to 7, for all kinds.
func TestCheckFlags(t *testing.T) {
	for _, kind := range []uint32{0, 1, 2, 4, 7} {
		s := load(0, 0, 1)
		s.Type = kind
		for flags := range uint32(300) {
			s.Flags = flags
			want := api.OK
			if flags >= 8 {
				want = api.ErrForm
			}
			check(t, []api.Seg{s}, 10, want)
		}
		for _, flags := range []uint32{1<<8 + 7, 1 << 16, 1 << 31, 1<<31 + 5, math.MaxUint32} {
			s.Flags = flags
			check(t, []api.Seg{s}, 10, api.ErrForm)
		}
	}
}

// P4.2: nothing else is examined in a SegNull, nor does it stand for a segment of another kind.
func TestCheckNull(t *testing.T) {
	for _, x := range numbers() {
		for _, s := range []api.Seg{{Off: x}, {Vaddr: x}, {File: x}, {Mem: x}, {Align: x}, seg(0, 7, x, x, x, x, x), seg(0, 3, x, 0, last, 1, 3)} {
			check(t, []api.Seg{s}, 0, api.OK)
			check(t, []api.Seg{s, s, s}, 5, api.OK)
			check(t, []api.Seg{s, shown, s}, 356, api.OK)
			check(t, []api.Seg{s, shown, s}, 355, api.ErrRange)
			s.Flags = 8
			check(t, []api.Seg{s}, 0, api.ErrForm)
			check(t, []api.Seg{shown, s}, 356, api.ErrForm)
		}
	}
	// The content of a SegDynamic isn't loaded by a SegNull.
	check(t, []api.Seg{part(api.SegNull, 0, 100), part(api.SegDynamic, 0, 100)}, 100, api.ErrForm)
}

// P4.2: Off and File at the file's end, and beyond it; all sums are exact.
func TestCheckRange(t *testing.T) {
	for _, kind := range []uint32{1, 4} {
		for _, c := range []struct {
			off, file, size uint64
			e               api.Errno
		}{
			{0, 0, 0, api.OK},
			{1, 0, 0, api.ErrRange},
			{0, 1, 0, api.ErrRange},
			{0, 1, 1, api.OK},
			{1, 0, 1, api.OK},
			{1, 1, 1, api.ErrRange},
			{2, 0, 1, api.ErrRange},
			{0, 1000, 1000, api.OK},
			{0, 1001, 1000, api.ErrRange},
			{1, 999, 1000, api.OK},
			{1, 1000, 1000, api.ErrRange},
			{1000, 0, 1000, api.OK},
			{1000, 1, 1000, api.ErrRange},
			{1001, 0, 1000, api.ErrRange},
			{1001, last, 1000, api.ErrRange},
			{1, last, 1000, api.ErrRange},
			{1000, last - 999, 1000, api.ErrRange},
			{500, last - 499, 1000, api.ErrRange},
			{500, last - 498, 1000, api.ErrRange},
			{last, 0, 1000, api.ErrRange},
			{last, 1, 1000, api.ErrRange},
			{last, 0, last, api.OK},
			{last, 1, last, api.ErrRange},
			{last, 0, last - 1, api.ErrRange},
			{last - 1, 1, last, api.OK},
			{last - 1, 2, last, api.ErrRange},
			{1 << 32, 1, 1<<32 + 1, api.OK},
			{1 << 32, 1, 1 << 32, api.ErrRange},
			{1 << 32, 0, 1, api.ErrRange},
		} {
			s := api.Seg{Type: kind, Off: c.off, Vaddr: c.off % 256, File: c.file, Mem: max(c.file, 1)}
			check(t, []api.Seg{s}, c.size, c.e)
			check(t, []api.Seg{{}, s, {}}, c.size, c.e)
		}
	}
}

// P4.2: Mem below File, as great and greater.
func TestCheckMem(t *testing.T) {
	for _, kind := range []uint32{1, 4} {
		for file := range uint64(600) {
			for _, mem := range []uint64{1, 2, 255, 256, 257, 511, 512, 599, 600, 1 << 32} {
				want := api.OK
				if mem < file {
					want = api.ErrForm
				}
				check(t, []api.Seg{{Type: kind, File: file, Mem: mem}}, 600, want)
			}
		}
		check(t, []api.Seg{{Type: kind, File: 1 << 32, Mem: 1 << 32}}, 1<<33, api.OK)
		check(t, []api.Seg{{Type: kind, File: 1 << 32, Mem: 1<<32 - 1}}, 1<<33, api.ErrForm)
		check(t, []api.Seg{{Type: kind, File: 1<<32 + 1, Mem: 1}}, 1<<33, api.ErrForm)
		check(t, []api.Seg{{Type: kind, File: last, Mem: last}}, last, api.ErrSize)
		check(t, []api.Seg{{Type: kind, File: last, Mem: last - 1}}, last, api.ErrForm)
	}
}

// P4.2: Vaddr and Mem up to Top.
func TestCheckTop(t *testing.T) {
	const top = 1 << 32
	for _, kind := range []uint32{2, 4, 7, 1} {
		for _, c := range []struct {
			vaddr, mem uint64
			e          api.Errno
		}{
			{0, top, api.OK},
			{0, top + 1, api.ErrSize},
			{1, top - 1, api.OK},
			{1, top, api.ErrSize},
			{top - 1, 1, api.OK},
			{top - 1, 2, api.ErrSize},
			{top - 256, 256, api.OK},
			{top - 256, 257, api.ErrSize},
			{top, 1, api.ErrSize},
			{top, last, api.ErrSize},
			{top + 1, 0, api.ErrSize},
			{top + 1, 1, api.ErrSize},
			{top + 1, last, api.ErrSize},
			{1, last, api.ErrSize},
			{1, last - 1, api.ErrSize},
			{256, last - 255, api.ErrSize},
			{256, last - 254, api.ErrSize},
			{top - 1, last, api.ErrSize},
			{last, 1, api.ErrSize},
			{last, 0, api.ErrSize},
			{last - 255, 256, api.ErrSize},
			{1 << 63, 0, api.ErrSize},
			{0, 1 << 63, api.ErrSize},
			{0, last, api.ErrSize},
		} {
			s := api.Seg{Type: kind, Off: c.vaddr % 256, Vaddr: c.vaddr, Mem: c.mem}
			check(t, []api.Seg{s}, 1000, c.e)
			check(t, []api.Seg{s, {}}, 1000, c.e)
		}
	}
	for _, kind := range []uint32{2, 4, 7} {
		check(t, []api.Seg{{Type: kind, Vaddr: top}}, 0, api.OK)
		check(t, []api.Seg{{Type: kind, Vaddr: top, Mem: 1}}, 0, api.ErrSize)
	}
	// A SegLoad has bytes, and there are none left at Top.
	check(t, []api.Seg{{Type: 1, Vaddr: top}}, 0, api.ErrForm)
}

// P4.2: Vaddr and Off of a SegLoad modulo Page, and Mem 0.
func TestCheckLoad(t *testing.T) {
	for off := range uint64(520) {
		for vaddr := range uint64(520) {
			want := api.OK
			if off%256 != vaddr%256 {
				want = api.ErrForm
			}
			if e := Check([]api.Seg{{Type: 1, Off: off, Vaddr: vaddr, Mem: 1}}, 520); e != want {
				t.Fatalf("Check of Off %d and Vaddr %d: %d; want %d", off, vaddr, e, want)
			}
			// Of other kinds nothing like that is asked.
			if e := Check([]api.Seg{{Type: 4, Off: off, Vaddr: vaddr, Mem: 1}}, 520); e != api.OK {
				t.Fatalf("Check of a SegNote with Off %d and Vaddr %d: %d", off, vaddr, e)
			}
		}
	}
	for _, kind := range []uint32{2, 4, 7} {
		check(t, []api.Seg{{Type: kind, Off: 1}}, 1, api.OK)
	}
	check(t, []api.Seg{load(0, 0, 0)}, 1, api.ErrForm)
	check(t, []api.Seg{load(1, 0, 0)}, 1, api.ErrForm)
	check(t, []api.Seg{load(1, 0, 1)}, 1, api.OK)
	check(t, []api.Seg{{Type: 1, Off: 1 << 40, Vaddr: 0, Mem: 1}}, 1<<40, api.OK)
	check(t, []api.Seg{{Type: 1, Off: 1<<40 + 1, Vaddr: 1, Mem: 1}}, 1<<41, api.OK)
	check(t, []api.Seg{{Type: 1, Off: 1<<40 + 1, Vaddr: 0, Mem: 1}}, 1<<41, api.ErrForm)
	check(t, []api.Seg{{Type: 1, Off: last, Vaddr: 255, Mem: 1}}, last, api.OK)
	check(t, []api.Seg{{Type: 1, Off: last, Vaddr: 254, Mem: 1}}, last, api.ErrForm)
	// Align isn't examined at all.
	for _, x := range numbers() {
		check(t, []api.Seg{{Type: 1, Mem: 1, Align: x}, {Type: 4, Align: x}, {Type: 2, Align: x}, {Type: 7, Align: x}}, 0, api.OK)
	}
}

// P4.2: pages that touch and pages that overlap, with segments of other kinds between them.
func TestCheckOver(t *testing.T) {
	for _, c := range []struct {
		v, m, w, n uint64
		e          api.Errno
	}{
		{0, 1, 256, 1, api.OK},
		{0, 1, 255, 1, api.ErrOver},
		{0, 1, 1, 1, api.ErrOver},
		{0, 256, 256, 1, api.OK},
		{0, 257, 256, 1, api.ErrOver},
		{0, 257, 511, 1, api.ErrOver},
		{0, 257, 512, 1, api.OK},
		{1, 255, 256, 1, api.OK},
		{1, 256, 256, 1, api.ErrOver},
		{1, 256, 257, 1, api.ErrOver},
		{1, 256, 512, 1, api.OK},
		{255, 1, 256, 1, api.OK},
		{255, 2, 300, 1, api.ErrOver},
		{255, 257, 512, 1, api.OK},
		{255, 258, 767, 1, api.ErrOver},
		{255, 258, 768, 1, api.OK},
		{256, 256, 256, 256, api.ErrOver},
		{256, 256, 0, 256, api.ErrOver},
		{512, 1, 0, 1, api.ErrOver},
		{256, 1, 0, 1, api.ErrOver},
		{1 << 31, 1 << 31, 0, 1, api.ErrOver},
		{0, 1 << 32, 1<<32 - 1, 1, api.ErrOver},
		{0, 1<<32 - 256, 1<<32 - 256, 1, api.OK},
		{0, 1<<32 - 255, 1<<32 - 1, 1, api.ErrOver},
		{0, 1<<32 - 256, 1<<32 - 1, 1, api.OK},
	} {
		a := api.Seg{Type: 1, Off: c.v % 256, Vaddr: c.v, Mem: c.m}
		b := api.Seg{Type: 1, Off: c.w % 256, Vaddr: c.w, Mem: c.n}
		check(t, []api.Seg{a, b}, 256, c.e)
		for _, s := range []api.Seg{{}, {Vaddr: last, Mem: last}, {Type: 4}, {Type: 4, Vaddr: 1 << 32}, {Type: 2}, {Type: 7, Vaddr: 5}} {
			check(t, []api.Seg{a, s, b}, 256, c.e)
			check(t, []api.Seg{s, a, b}, 256, c.e)
		}
		check(t, []api.Seg{a, {}, {Type: 4}, {Type: 2}, {Type: 7}, {}, b}, 256, c.e)
	}
	// Each one is held against the one before it, not against the first.
	x, y, z := load(0, 0, 1), load(256, 0, 1), load(512, 0, 1)
	check(t, []api.Seg{x, y, z}, 600, api.OK)
	check(t, []api.Seg{x, z, y}, 600, api.ErrOver)
	check(t, []api.Seg{x, y, y}, 600, api.ErrOver)
	check(t, []api.Seg{y, x, z}, 600, api.ErrOver)
	check(t, []api.Seg{x, load(256, 0, 257), z}, 600, api.ErrOver)
	// What segments of other kinds have in memory lies over nothing.
	check(t, []api.Seg{x, part(4, 0, 1), part(4, 0, 1), part(0, 0, 1)}, 600, api.OK)
}

// P4.2: a second SegDynamic or SegTls, and one of each.
func TestCheckTwice(t *testing.T) {
	d, u := api.Seg{Type: api.SegDynamic}, api.Seg{Type: api.SegTls}
	n, z := api.Seg{Type: api.SegNote}, api.Seg{}
	for _, c := range []struct {
		l []api.Seg
		e api.Errno
	}{
		{[]api.Seg{d}, api.OK},
		{[]api.Seg{u}, api.OK},
		{[]api.Seg{d, u}, api.OK},
		{[]api.Seg{u, d}, api.OK},
		{[]api.Seg{d, d}, api.ErrOver},
		{[]api.Seg{u, u}, api.ErrOver},
		{[]api.Seg{d, u, d}, api.ErrOver},
		{[]api.Seg{u, d, u}, api.ErrOver},
		{[]api.Seg{d, u, u}, api.ErrOver},
		{[]api.Seg{u, d, d}, api.ErrOver},
		{[]api.Seg{n, d, z, shown, n, u, z}, api.OK},
		{[]api.Seg{d, n, z, shown, z, n, d}, api.ErrOver},
		{[]api.Seg{n, u, n, z, shown, u}, api.ErrOver},
		{[]api.Seg{n, n, n, z, z, z}, api.OK},
		{[]api.Seg{d, {Type: api.SegDynamic, Flags: 7, Off: 5, Vaddr: 9, Mem: 7}}, api.ErrOver},
	} {
		check(t, c.l, 1000, c.e)
	}
}

// P4.2: the contents of a SegDynamic or a SegTls inside, at both ends of and outside a SegLoad.
func TestCheckLoaded(t *testing.T) {
	for _, kind := range []uint32{api.SegDynamic, api.SegTls} {
		for off := range uint64(800) {
			for _, file := range []uint64{0, 1, 2, 99, 100, 101, 255, 256, 400} {
				l := load(256, 100, 300)
				s := part(kind, off, file)
				want := api.OK
				if file > 0 && (off < 256 || off+file > 356) {
					want = api.ErrForm
				}
				check(t, []api.Seg{l, s}, 2000, want)
				check(t, []api.Seg{s, l}, 2000, want)
				check(t, []api.Seg{load(0, 1, 1), {}, s, {Type: 4}, l}, 2000, wantOne(want, off, file))
				s.Mem += 1000
				check(t, []api.Seg{l, s}, 2000, want)
			}
		}
	}
	// A SegNote's content, and that of a SegNull, need not be loaded.
	check(t, []api.Seg{load(256, 100, 300), part(4, 0, 5), part(4, 300, 500), part(0, 1, 1)}, 2000, api.OK)
	check(t, []api.Seg{part(4, 0, 5)}, 2000, api.OK)
	// Without a SegLoad only contents without bytes are right.
	for _, kind := range []uint32{2, 7} {
		check(t, []api.Seg{part(kind, 0, 0)}, 10, api.OK)
		check(t, []api.Seg{{Type: kind, Off: 10, Mem: 9}}, 10, api.OK)
		check(t, []api.Seg{part(kind, 0, 1)}, 10, api.ErrForm)
		check(t, []api.Seg{part(kind, 0, 1), part(9-kind, 0, 0)}, 10, api.ErrForm)
		check(t, []api.Seg{part(kind, 0, 1), part(4, 0, 1)}, 10, api.ErrForm)
		check(t, []api.Seg{part(kind, 0, 1), part(9-kind, 0, 1)}, 10, api.ErrForm)
		check(t, []api.Seg{part(kind, 0, 1), load(0, 1, 1), part(9-kind, 0, 1)}, 10, api.OK)
		check(t, []api.Seg{part(kind, 0, 1), load(0, 1, 1), part(9-kind, 0, 2)}, 10, api.ErrForm)
		check(t, []api.Seg{part(kind, 0, 2), load(0, 1, 1), part(9-kind, 0, 1)}, 10, api.ErrForm)
		// The bytes behind File are not those of the file, though they are loaded as bytes 0.
		check(t, []api.Seg{load(0, 1, 100), part(kind, 1, 1)}, 10, api.ErrForm)
	}
}

// wantOne is what is wanted when the byte at 0 is loaded too.
func wantOne(want api.Errno, off, file uint64) api.Errno {
	if off == 0 && file == 1 {
		return api.OK
	}
	return want
}

// P4.2: two SegLoads side by side do not hold one content together, and either of them may hold it.
func TestCheckLoadedByOne(t *testing.T) {
	l, m := load(256, 256, 256), load(512, 256, 256)
	for _, kind := range []uint32{2, 7} {
		for off := range uint64(900) {
			for _, file := range []uint64{1, 2, 255, 256, 257, 512} {
				want := api.ErrForm
				if (off >= 256 && off+file <= 512) || (off >= 512 && off+file <= 768) {
					want = api.OK
				}
				check(t, []api.Seg{l, m, part(kind, off, file)}, 2000, want)
				check(t, []api.Seg{l, part(kind, off, file), m}, 2000, want)
				check(t, []api.Seg{part(kind, off, file), l, m}, 2000, want)
			}
		}
	}
}

// P4.2: the difference of Vaddr and Off, modulo 2^64, is that of the SegLoad.
func TestCheckDifference(t *testing.T) {
	for _, kind := range []uint32{2, 7} {
		for _, c := range []struct {
			off, vaddr   uint64 // of the SegLoad
			off2, vaddr2 uint64 // of the other
			e            api.Errno
		}{
			{256, 256, 256, 256, api.OK},
			{256, 256, 256, 512, api.ErrForm},
			{256, 256, 256, 257, api.ErrForm},
			{256, 256, 257, 256, api.ErrForm},
			{256, 256, 300, 300, api.OK},
			{256, 256, 300, 299, api.ErrForm},
			{256, 512, 300, 556, api.OK},
			{256, 512, 300, 300, api.ErrForm},
			{256, 512, 300, 44, api.ErrForm},
			{256, 0, 300, 44, api.OK},
			{256, 0, 256, 0, api.OK},
			{256, 0, 300, 300, api.ErrForm},
			{256, 0, 300, 556, api.ErrForm},
			{512, 0, 512, 0, api.OK},
			{512, 0, 520, 8, api.OK},
			{512, 0, 520, 9, api.ErrForm},
			{256, 1<<32 - 256, 256, 1<<32 - 256, api.OK},
			{256, 1<<32 - 256, 300, 1<<32 - 212, api.OK},
			{256, 1<<32 - 256, 300, 300, api.ErrForm},
			{0, 1<<32 - 256, 0, 0, api.ErrForm},
		} {
			l := api.Seg{Type: 1, Off: c.off, Vaddr: c.vaddr, File: 100, Mem: 100}
			s := api.Seg{Type: kind, Off: c.off2, Vaddr: c.vaddr2, File: 1, Mem: 1}
			check(t, []api.Seg{l, s}, 1000, c.e)
			check(t, []api.Seg{s, l}, 1000, c.e)
			// Without bytes no difference is asked for.
			s.File = 0
			check(t, []api.Seg{l, s}, 1000, api.OK)
		}
		// The same bytes are loaded twice, and the second place is the right one.
		first := api.Seg{Type: 1, Off: 256, Vaddr: 256, File: 100, Mem: 100}
		second := api.Seg{Type: 1, Off: 256, Vaddr: 512, File: 100, Mem: 100}
		s := api.Seg{Type: kind, Off: 300, Vaddr: 556, File: 10, Mem: 10}
		check(t, []api.Seg{first, second, s}, 1000, api.OK)
		check(t, []api.Seg{first, s}, 1000, api.ErrForm)
		s.Vaddr = 300
		check(t, []api.Seg{first, second, s}, 1000, api.OK)
		check(t, []api.Seg{second, s}, 1000, api.ErrForm)
		// One SegLoad has the bytes, another one the difference.
		other := api.Seg{Type: 1, Off: 512, Vaddr: 512, File: 100, Mem: 100}
		far := api.Seg{Type: 1, Off: 256, Vaddr: 1024, File: 100, Mem: 100}
		check(t, []api.Seg{other, far, s}, 1000, api.ErrForm)
		check(t, []api.Seg{first, other, far, s}, 1000, api.OK)
	}
}

// P4.2: of several errors in one segment, the one that the chapter numbers first is told.
func TestCheckOrder(t *testing.T) {
	kind := func(s *api.Seg) { s.Type = 5 }
	flags := func(s *api.Seg) { s.Flags = 8 }
	span := func(s *api.Seg) { s.Off += 4096 }
	small := func(s *api.Seg) { s.Mem = s.File - 1 }
	high := func(s *api.Seg) { s.Vaddr += 1 << 32 }
	odd := func(s *api.Seg) { s.Vaddr++ }
	all := []func(*api.Seg){kind, flags, span, small, high, odd}
	errs := []api.Errno{api.ErrForm, api.ErrForm, api.ErrRange, api.ErrForm, api.ErrSize, api.ErrForm}
	for set := range 1 << len(all) {
		s := shown
		want := api.OK
		for i := len(all) - 1; i >= 0; i-- {
			if set>>i&1 == 1 {
				all[i](&s)
				want = errs[i]
			}
		}
		check(t, []api.Seg{s}, 1000, want)
		// A segment before it tells its errors first, and one behind it later.
		check(t, []api.Seg{s, {Type: 3}}, 1000, first(want, api.ErrForm))
		check(t, []api.Seg{{Type: 3}, s}, 1000, api.ErrForm)
		check(t, []api.Seg{{Type: 4, Off: 2000}, s}, 1000, api.ErrRange)
		check(t, []api.Seg{{Type: 4, Vaddr: last}, s}, 1000, api.ErrSize)
		check(t, []api.Seg{s, {Type: 4, Off: 2000}}, 1000, first(want, api.ErrRange))
		// Its pages are examined only when all else is right.
		check(t, []api.Seg{load(256, 0, 1), s}, 1000, first(want, api.ErrOver))
		// And contents that are not loaded behind all segments.
		check(t, []api.Seg{part(2, 0, 1), s}, 1000, first(want, api.ErrForm))
		check(t, []api.Seg{part(7, 0, 1), load(512, 0, 1), s}, 1000, first(want, api.ErrOver))
	}
	// A SegDynamic or a SegTls that is there twice and has another error, too.
	for _, k := range []uint32{2, 7} {
		check(t, []api.Seg{{Type: k}, {Type: k, Flags: 8}}, 0, api.ErrForm)
		check(t, []api.Seg{{Type: k}, {Type: k, Off: 1}}, 0, api.ErrRange)
		check(t, []api.Seg{{Type: k}, {Type: k, File: 1}}, 1, api.ErrForm)
		check(t, []api.Seg{{Type: k}, {Type: k, Vaddr: last}}, 0, api.ErrSize)
		check(t, []api.Seg{{Type: k}, {Type: k, File: 1, Mem: 1}}, 1, api.ErrOver)
		check(t, []api.Seg{{Type: k, File: 1, Mem: 1}, {Type: k}}, 1, api.ErrOver)
		check(t, []api.Seg{{Type: k}, {Type: k}, {Type: 4, Off: 1}}, 0, api.ErrOver)
		check(t, []api.Seg{{Type: k}, {Type: 4, Off: 1}, {Type: k}}, 0, api.ErrRange)
	}
}

// first is the error that is told when one comes ahead of another.
func first(e, f api.Errno) api.Errno {
	if e != api.OK {
		return e
	}
	return f
}

// holds tells whether a span contains all indices of another one, with sums of any size.
func holds(p, m, q, n uint64) bool {
	whole := func(x uint64) *big.Int { return new(big.Int).SetUint64(x) }
	end := new(big.Int).Add(whole(p), whole(m))
	end2 := new(big.Int).Add(whole(q), whole(n))
	return n == 0 || whole(p).Cmp(whole(q)) <= 0 && end2.Cmp(end) <= 0
}

// plainCheck is what Check should tell, by the chapter's words alone.
func plainCheck(l []api.Seg, size uint64) api.Errno {
	var loads, parts []api.Seg
	for _, s := range l {
		if !slices.Contains([]uint32{0, 1, 2, 4, 7}, s.Type) || s.Flags >= 8 {
			return api.ErrForm
		}
		if s.Type == 0 {
			continue
		}
		if !holds(0, size, s.Off, s.File) || s.Off > size {
			return api.ErrRange
		}
		if s.Mem < s.File {
			return api.ErrForm
		}
		if !holds(0, 1<<32, s.Vaddr, s.Mem) || s.Vaddr > 1<<32 {
			return api.ErrSize
		}
		switch s.Type {
		case 1:
			if (s.Vaddr-s.Off)%256 != 0 || s.Mem == 0 {
				return api.ErrForm
			}
			if n := len(loads); n > 0 && s.Vaddr/256 <= (loads[n-1].Vaddr+loads[n-1].Mem-1)/256 {
				return api.ErrOver
			}
			loads = append(loads, s)
		case 2, 7:
			if slices.ContainsFunc(parts, func(p api.Seg) bool { return p.Type == s.Type }) {
				return api.ErrOver
			}
			parts = append(parts, s)
		}
	}
	for _, s := range parts {
		if s.File > 0 && !slices.ContainsFunc(loads, func(l api.Seg) bool {
			return holds(l.Off, l.File, s.Off, s.File) && l.Vaddr+s.Off == s.Vaddr+l.Off
		}) {
			return api.ErrForm
		}
	}
	return api.OK
}

// small are lists of up to three segments with few numbers in them, in the same order each time.
func small(each func(l []api.Seg, size uint64)) {
	var one []api.Seg
	for _, kind := range []uint32{0, 1, 2, 7, 4} {
		for _, at := range []uint64{0, 256, 512, 513, 1 << 32} {
			for _, m := range []uint64{0, 1, 256, 257} {
				one = append(one, api.Seg{Type: kind, Off: at % (1 << 32), Vaddr: at, File: m, Mem: m}, api.Seg{Type: kind, Off: 256, Vaddr: at, File: m / 2, Mem: m})
			}
		}
	}
	one = append(one, api.Seg{Type: 3}, api.Seg{Type: 4, Flags: 8}, api.Seg{Type: 1, File: 3, Mem: 2}, api.Seg{Type: 1, Off: 5000, Mem: 1}, api.Seg{Type: 2, Off: 513, Vaddr: 257, File: 1, Mem: 1})
	for _, s := range one {
		each([]api.Seg{s}, 513)
		for _, u := range one {
			each([]api.Seg{s, u}, 770)
			for _, v := range one {
				// All triples are too many; those with two SegLoads or a SegDynamic tell the most.
				if s.Type == 1 && (v.Type == 1 || u.Type == 1) || u.Type == 2 && v.Type == 1 {
					each([]api.Seg{s, u, v}, 770)
				}
			}
		}
	}
}

// P4.2: Check of many short lists, held against a plain reckoning.
func TestCheckSmall(t *testing.T) {
	tally := make(map[api.Errno]int)
	small(func(l []api.Seg, size uint64) {
		want := plainCheck(l, size)
		if e := Check(l, size); e != want {
			t.Fatalf("Check of %v for %d: %d; want %d", l, size, e, want)
		}
		tally[want]++
	})
	for _, e := range []api.Errno{api.OK, api.ErrRange, api.ErrForm, api.ErrOver, api.ErrSize} {
		if tally[e] < 100 {
			t.Errorf("only %d lists with error %d", tally[e], e)
		}
	}
}

// P4.2: Check of all segments with numbers near 0, Page, Top and 2^64, held against a plain reckoning.
func TestCheckNumbers(t *testing.T) {
	x := []uint64{0, 1, 255, 256, 257, 1<<32 - 256, 1<<32 - 1, 1 << 32, 1<<32 + 1, 1 << 63, last - 255, last - 1, last}
	for _, kind := range []uint32{0, 1, 2, 4, 7} {
		for _, off := range x {
			for _, vaddr := range x {
				for _, file := range x {
					for _, mem := range x {
						for _, size := range []uint64{0, 256, 1 << 32, last} {
							l := []api.Seg{{Type: kind, Off: off, Vaddr: vaddr, File: file, Mem: mem}}
							want := plainCheck(l, size)
							if e := Check(l, size); e != want {
								t.Fatalf("Check of %v for %d: %d; want %d", l, size, e, want)
							}
						}
					}
				}
			}
		}
	}
}

// P4.3: the first segment of a kind, or none.
func TestFind(t *testing.T) {
	a := api.Seg{Type: 1, Off: 1}
	b := api.Seg{Type: 1, Off: 2}
	c := api.Seg{Type: 2, Flags: 9, Off: last, Vaddr: last, File: last, Mem: last, Align: last}
	z := api.Seg{Type: 0, Off: 5}
	far := api.Seg{Type: math.MaxUint32, Off: 6}
	for _, f := range []struct {
		l    []api.Seg
		kind uint32
		want api.Seg
		ok   bool
	}{
		{nil, 0, api.Seg{}, false},
		{nil, 1, api.Seg{}, false},
		{[]api.Seg{}, 0, api.Seg{}, false},
		{[]api.Seg{a}, 1, a, true},
		{[]api.Seg{a}, 0, api.Seg{}, false},
		{[]api.Seg{a}, 2, api.Seg{}, false},
		{[]api.Seg{a, b}, 1, a, true},
		{[]api.Seg{b, a}, 1, b, true},
		{[]api.Seg{c, b, a}, 1, b, true},
		{[]api.Seg{a, b, c}, 2, c, true},
		{[]api.Seg{a, c, b}, 2, c, true},
		{[]api.Seg{a, b, c}, 4, api.Seg{}, false},
		{[]api.Seg{a, b, c}, 0, api.Seg{}, false},
		{[]api.Seg{a, z, c}, 0, z, true},
		{[]api.Seg{{}, z}, 0, api.Seg{}, true},
		{[]api.Seg{a, far, z}, math.MaxUint32, far, true},
		{[]api.Seg{a, b}, 1<<8 + 1, api.Seg{}, false},
		{[]api.Seg{a, b}, 1<<16 + 1, api.Seg{}, false},
		{[]api.Seg{a, b}, 3, api.Seg{}, false},
	} {
		if s, ok := Find(f.l, f.kind); s != f.want || ok != f.ok {
			t.Errorf("Find of %d in %v: %v, %v; want %v, %v", f.kind, f.l, s, ok, f.want, f.ok)
		}
	}
}

// P4.3: where an address stands in the file, and ErrMap with 0 of what isn't there as a whole.
func TestPlace(t *testing.T) {
	one := []api.Seg{shown}
	two := []api.Seg{{Type: 4, Off: 1, Vaddr: 256, File: 500, Mem: 500}, shown, {}, {Type: 1, Off: 1024, Vaddr: 768, File: 256, Mem: 300}}
	for _, c := range []struct {
		l          []api.Seg
		addr, size uint64
		want       uint64
		e          api.Errno
	}{
		{nil, 0, 0, 0, api.ErrMap},
		{nil, 0, 1, 0, api.ErrMap},
		{one, 300, 4, 300, api.OK},
		{one, 300, 0, 0, api.ErrMap},
		{one, 256, 0, 0, api.ErrMap},
		{one, 255, 1, 0, api.ErrMap},
		{one, 255, 2, 0, api.ErrMap},
		{one, 256, 1, 256, api.OK},
		{one, 256, 100, 256, api.OK},
		{one, 256, 101, 0, api.ErrMap},
		{one, 257, 99, 257, api.OK},
		{one, 257, 100, 0, api.ErrMap},
		{one, 355, 1, 355, api.OK},
		{one, 355, 2, 0, api.ErrMap},
		{one, 356, 1, 0, api.ErrMap},
		{one, 356, 0, 0, api.ErrMap},
		{one, 357, 1, 0, api.ErrMap},
		{one, 400, 1, 0, api.ErrMap}, // in memory, not in the file
		{one, 0, 1, 0, api.ErrMap},
		{one, 0, last, 0, api.ErrMap},
		{one, 256, last, 0, api.ErrMap},
		{one, 300, last, 0, api.ErrMap},
		{one, 300, last - 299, 0, api.ErrMap},
		{one, 300, last - 299 + 1, 0, api.ErrMap},
		{one, 355, last - 354 + 100, 0, api.ErrMap},
		{one, last, 1, 0, api.ErrMap},
		{one, last, last, 0, api.ErrMap},
		{one, 1<<32 + 256, 1, 0, api.ErrMap},
		{two, 256, 1, 256, api.OK},
		{two, 767, 1, 0, api.ErrMap},
		{two, 768, 1, 1024, api.OK},
		{two, 768, 256, 1024, api.OK},
		{two, 768, 257, 0, api.ErrMap},
		{two, 1023, 1, 1279, api.OK},
		{two, 1024, 1, 0, api.ErrMap},
		{two, 355, 414, 0, api.ErrMap},
		{[]api.Seg{{Type: 4, Off: 1, Vaddr: 1, File: 9, Mem: 9}}, 2, 1, 0, api.ErrMap},
		{[]api.Seg{{Type: 2, Off: 1, Vaddr: 1, File: 9, Mem: 9}}, 2, 1, 0, api.ErrMap},
		{[]api.Seg{{Type: 0, Off: 1, Vaddr: 1, File: 9, Mem: 9}}, 2, 1, 0, api.ErrMap},
		{[]api.Seg{{Type: 7, Off: 1, Vaddr: 1, File: 9, Mem: 9}}, 2, 1, 0, api.ErrMap},
		{[]api.Seg{{Type: 1, Off: 1, Vaddr: 1, File: 9, Mem: 9}}, 2, 1, 2, api.OK},
		{[]api.Seg{{Type: 1, Off: 9, Vaddr: 1, File: 9, Mem: 0}}, 2, 1, 10, api.OK},
		{[]api.Seg{load(0, 0, 9)}, 0, 1, 0, api.ErrMap},
		{[]api.Seg{load(0, 0, 9)}, 0, 0, 0, api.ErrMap},
		// The first one that contains them, though another one does so too.
		{[]api.Seg{{Type: 1, Off: 7, Vaddr: 0, File: 9}, {Type: 1, Off: 70, Vaddr: 0, File: 99}}, 8, 1, 15, api.OK},
		{[]api.Seg{{Type: 1, Off: 7, Vaddr: 0, File: 9}, {Type: 1, Off: 70, Vaddr: 0, File: 99}}, 8, 2, 78, api.OK},
		// Two that lie side by side do not contain them together.
		{[]api.Seg{load(0, 256, 256), load(256, 256, 256)}, 255, 2, 0, api.ErrMap},
		{[]api.Seg{load(0, 256, 256), load(256, 256, 256)}, 255, 1, 255, api.OK},
		{[]api.Seg{load(0, 256, 256), load(256, 256, 256)}, 256, 1, 256, api.OK},
		// Sums above 2^64 are exact; the offset is one modulo 2^64.
		{[]api.Seg{{Type: 1, Off: 5, Vaddr: last, File: 2}}, last, 1, 5, api.OK},
		{[]api.Seg{{Type: 1, Off: 5, Vaddr: last, File: 2}}, last, 2, 5, api.OK},
		{[]api.Seg{{Type: 1, Off: 5, Vaddr: last, File: 2}}, last, 3, 0, api.ErrMap},
		{[]api.Seg{{Type: 1, Off: 5, Vaddr: last, File: 2}}, 0, 1, 0, api.ErrMap},
		{[]api.Seg{{Type: 1, Off: 5, Vaddr: last - 9, File: last}}, last, last, 0, api.ErrMap},
		{[]api.Seg{{Type: 1, Off: 5, Vaddr: last - 9, File: last}}, last, last - 9, 14, api.OK},
		{[]api.Seg{{Type: 1, Off: 0, Vaddr: 0, File: last}}, 1, last - 1, 1, api.OK},
		{[]api.Seg{{Type: 1, Off: 0, Vaddr: 0, File: last}}, 1, last, 0, api.ErrMap},
		{[]api.Seg{{Type: 1, Off: 0, Vaddr: 0, File: last}}, last, 1, 0, api.ErrMap},
		{[]api.Seg{{Type: 1, Off: last, Vaddr: 10, File: 20}}, 10, 1, last, api.OK},
		{[]api.Seg{{Type: 1, Off: last, Vaddr: 10, File: 20}}, 12, 1, 1, api.OK},
		{[]api.Seg{{Type: 1, Off: 0, Vaddr: 10, File: 20}}, 9, 1, 0, api.ErrMap},
		{[]api.Seg{{Type: 1, Off: 0, Vaddr: 10, File: last}}, 9, 1, 0, api.ErrMap},
		{[]api.Seg{{Type: 1, Off: 0, Vaddr: 10, File: last}}, 0, 1, 0, api.ErrMap},
	} {
		if x, e := Place(c.l, c.addr, c.size); x != c.want || e != c.e {
			t.Errorf("Place of %d, %d in %v: %d, %d; want %d, %d", c.addr, c.size, c.l, x, e, c.want, c.e)
		}
	}
}

// P4.3: Place in many short lists, accepted or not, held against a plain reckoning.
func TestPlaceSmall(t *testing.T) {
	x := []uint64{0, 1, 100, 256, 257, 1 << 32, last - 255, last - 1, last}
	found := 0
	for _, off := range x {
		for _, vaddr := range x {
			for _, file := range x {
				for _, addr := range x {
					for _, size := range x {
						l := []api.Seg{{Type: 4, File: last}, {Type: 1, Off: off, Vaddr: vaddr, File: file}, {Type: 1, Off: 3, Vaddr: 256, File: 3}}
						want, err := uint64(0), api.ErrMap
						switch {
						case size == 0:
						case holds(vaddr, file, addr, size):
							want, err = off+addr-vaddr, api.OK
						case holds(256, 3, addr, size):
							want, err = addr-253, api.OK
						}
						if err == api.OK {
							found++
						}
						if got, e := Place(l, addr, size); got != want || e != err {
							t.Fatalf("Place of %d, %d in %v: %d, %d; want %d, %d", addr, size, l, got, e, want, err)
						}
					}
				}
			}
		}
	}
	if found < 1000 {
		t.Errorf("only %d were found", found)
	}
}

// P4.3: the first page of a SegLoad and the end of the last one.
func TestSpan(t *testing.T) {
	for _, c := range []struct {
		l        []api.Seg
		from, to uint64
	}{
		{nil, 0, 0},
		{[]api.Seg{}, 0, 0},
		{[]api.Seg{{}}, 0, 0},
		{[]api.Seg{{Vaddr: 300, Mem: 300}, {Type: 4, Vaddr: 300, Mem: 300}, {Type: 2, Vaddr: 256, Mem: 9}, {Type: 7, Vaddr: 256, Mem: 9}}, 0, 0},
		{[]api.Seg{shown}, 256, 768},
		{[]api.Seg{load(0, 0, 1)}, 0, 256},
		{[]api.Seg{load(0, 0, 256)}, 0, 256},
		{[]api.Seg{load(0, 0, 257)}, 0, 512},
		{[]api.Seg{load(255, 0, 1)}, 0, 256},
		{[]api.Seg{load(255, 0, 2)}, 0, 512},
		{[]api.Seg{load(256, 0, 1)}, 256, 512},
		{[]api.Seg{load(257, 0, 255)}, 256, 512},
		{[]api.Seg{load(257, 0, 256)}, 256, 768},
		{[]api.Seg{load(0, 0, 1<<32)}, 0, 1 << 32},
		{[]api.Seg{load(1<<32-1, 0, 1)}, 1<<32 - 256, 1 << 32},
		{[]api.Seg{load(1<<32-256, 0, 1)}, 1<<32 - 256, 1 << 32},
		{[]api.Seg{load(0, 0, 1), load(256, 0, 1)}, 0, 512},
		{[]api.Seg{load(300, 0, 1), load(5000, 0, 100)}, 256, 5120},
		{[]api.Seg{load(300, 0, 1), load(512, 0, 1), load(1<<20, 0, 1<<20+1)}, 256, 1<<21 + 256},
		{[]api.Seg{{Type: 4, Mem: 1 << 32}, load(512, 0, 1), {Type: 2}, load(1024, 0, 1), {Type: 7, Mem: 9999}, {}}, 512, 1280},
	} {
		if e := Check(c.l, 1<<32); e != api.OK {
			t.Errorf("Check of %v: %d", c.l, e)
		}
		if from, to := Span(c.l); from != c.from || to != c.to {
			t.Errorf("Span of %v: %d, %d; want %d, %d", c.l, from, to, c.from, c.to)
		}
	}
}

// P4.3: Span of the short lists that Check accepts, held against the pages that their bytes lie on.
func TestSpanSmall(t *testing.T) {
	small(func(l []api.Seg, size uint64) {
		if Check(l, size) != api.OK {
			return
		}
		least, greatest, found := uint64(0), uint64(0), false
		for _, s := range l {
			if s.Type != api.SegLoad {
				continue
			}
			for a := s.Vaddr; a < s.Vaddr+s.Mem; a++ {
				if !found || a/256*256 < least {
					least = a / 256 * 256
				}
				greatest = max(greatest, a/256*256+256)
				found = true
			}
		}
		if from, to := Span(l); from != least || to != greatest {
			t.Fatalf("Span of %v: %d, %d; want %d, %d", l, from, to, least, greatest)
		}
	})
}

// P4.3: each call ends without a panic, though Check accepts none of these.
func TestSpanWild(t *testing.T) {
	for _, x := range numbers() {
		for _, y := range numbers() {
			l := []api.Seg{{Type: 1, Vaddr: x, Mem: y}, {Type: 1, Vaddr: y, Mem: x}, {Type: 1, Vaddr: x, Mem: x}}
			from, to := Span(l)
			if again, behind := Span(l); again != from || behind != to {
				t.Errorf("Span of %v: %d, %d, then %d, %d", l, from, to, again, behind)
			}
		}
	}
}

// P4.4: Get tells what Put was given, whatever bytes follow.
func TestPutThenGet(t *testing.T) {
	for _, s := range some() {
		b := Put(s)
		if len(b) != 56 {
			t.Fatalf("Put of %v has %d bytes", s, len(b))
		}
		for _, behind := range [][]byte{nil, {0}, {255}, b, b[:55], bytes.Repeat([]byte{7}, 300)} {
			if got, e := Get(slices.Concat(b, behind)); got != s || e != api.OK {
				t.Fatalf("Get of what Put answers of %v, with %d bytes behind: %v, %d", s, len(behind), got, e)
			}
		}
	}
}

// P4.4: of the segment that Get tells, Put answers the same 56 bytes.
func TestGetThenPut(t *testing.T) {
	accepted := 0
	for _, first := range some() {
		for at := range 56 {
			b := append(plain(first), 1, 2, 3)
			b[at] ^= 129
			s, e := Get(b)
			if e != api.OK {
				continue
			}
			accepted++
			if again := Put(s); !bytes.Equal(again, b[:56]) {
				t.Fatalf("Put of what Get tells of % x: % x", b, again)
			}
		}
	}
	if accepted != 40*len(some()) {
		t.Errorf("%d were accepted", accepted)
	}
}

// P4.4: in a list that Check accepts no page is loaded twice, and all that is in the file lies within it.
func TestAccepted(t *testing.T) {
	accepted := 0
	small(func(l []api.Seg, size uint64) {
		if Check(l, size) != api.OK {
			return
		}
		accepted++
		owner := make(map[uint64]int)
		for i, s := range l {
			if s.Type == api.SegNull {
				continue
			}
			if s.Off+s.File > size {
				t.Fatalf("of %v, for %d, %d isn't in the file", l, size, i)
			}
			if s.Type != api.SegLoad {
				continue
			}
			for a := s.Vaddr; a < s.Vaddr+s.Mem; a++ {
				if j, ok := owner[a/256]; ok && j != i {
					t.Fatalf("of %v, %d and %d have page %d in common", l, i, j, a/256)
				}
				owner[a/256] = i
			}
		}
	})
	if accepted < 1000 {
		t.Errorf("only %d were accepted", accepted)
	}
}

// P4.1: a result hangs on no other result, and no call changes what is passed or lies behind it.
func TestNewMemory(t *testing.T) {
	first, second := Put(shown), Put(shown)
	for i := range first {
		first[i] = ^first[i]
	}
	// What is appended must not fall into what belongs to somebody else.
	first = append(first, 9, 9, 9)
	if !bytes.Equal(second, plain(shown)) || !bytes.Equal(Put(shown), plain(shown)) {
		t.Errorf("results of Put share memory: % x", second)
	}
	whole := append(plains(rows(3)), 1, 2, 3)
	kept := bytes.Clone(whole)
	for _, b := range [][]byte{whole, whole[:168], whole[:167], whole[:56], whole[:55]} {
		s, _ := Get(b)
		s.Off++
		l, e := Table(b, 0, len(b)/56)
		if e != api.OK || !slices.Equal(l, rows(len(b)/56)) {
			t.Errorf("Table of %d: %v, %d", len(b)/56, l, e)
		}
		for i := range l {
			l[i] = api.Seg{}
		}
		l = append(l, shown)
		if again, e := Table(b, 0, len(b)/56); e != api.OK || !slices.Equal(again, rows(len(b)/56)) {
			t.Errorf("Table of %d once more: %v, %d", len(b)/56, again, e)
		}
		if !bytes.Equal(whole, kept) {
			t.Fatalf("bytes were changed to % x", whole)
		}
	}
	// A change of the bytes doesn't change what was told of them.
	l, _ := Table(whole, 0, 3)
	clear(whole)
	if !slices.Equal(l, rows(3)) {
		t.Errorf("Table's segments were changed to %v", l)
	}
}

// P4.2, P4.3: the list that is passed stays as it is, and what lies behind it too.
func TestUnchanged(t *testing.T) {
	whole := []api.Seg{{Type: 4, Off: 9}, load(512, 3, 7), shown, {Type: 7, Vaddr: 5}, {Type: 2}, {Type: 1, Off: 7}, {Type: 9}}
	kept := slices.Clone(whole)
	for n := range len(whole) + 1 {
		l := whole[:n]
		for range 2 {
			Check(l, 1000)
			Check(l, 0)
			s, _ := Find(l, 1)
			s.Off++
			Place(l, 300, 4)
			Place(l, last, last)
			Span(l)
			if !slices.Equal(whole, kept) {
				t.Fatalf("the list was changed to %v", whole)
			}
		}
	}
}

// P4.2, P4.3: nothing is left over from a call before.
func TestAgain(t *testing.T) {
	for range 3 {
		check(t, []api.Seg{load(512, 0, 1), {Type: 2}, {Type: 7}}, 1000, api.OK)
		check(t, []api.Seg{shown}, 1000, api.OK)
		check(t, []api.Seg{shown, shown}, 1000, api.ErrOver)
		check(t, []api.Seg{part(2, 0, 1)}, 1000, api.ErrForm)
		if s, ok := Find([]api.Seg{shown}, 1); s != shown || !ok {
			t.Error(s, ok)
		}
		if s, ok := Find(nil, 1); s != (api.Seg{}) || ok {
			t.Error(s, ok)
		}
		if x, e := Place([]api.Seg{shown}, 300, 4); x != 300 || e != api.OK {
			t.Error(x, e)
		}
		if x, e := Place(nil, 300, 4); x != 0 || e != api.ErrMap {
			t.Error(x, e)
		}
		if from, to := Span([]api.Seg{shown}); from != 256 || to != 768 {
			t.Error(from, to)
		}
		if from, to := Span(nil); from != 0 || to != 0 {
			t.Error(from, to)
		}
		if l, e := Table(make([]byte, 112), 0, 2); !slices.Equal(l, make([]api.Seg, 2)) || e != api.OK {
			t.Error(l, e)
		}
	}
}
