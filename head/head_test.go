package head

import (
	"bytes"
	"encoding/binary"
	"math"
	"slices"
	"testing"

	"dormouse/api"
)

// last is the greatest number that Entry and Segs may be.
const last = uint64(math.MaxUint64)

// Kinds and counts that may not be; many agree in their low bytes with some that may.
var (
	wrongKinds = []int{
		-1, -2, -3, -4, 0, 1, 5, 6, 7, 8, 127, 255, 256,
		1<<8 + 2, 1<<8 + 3, 2 << 8, 3 << 8, 4 << 8,
		1<<16 - 2, 1<<16 - 1, 1 << 16, 1<<16 + 2, 1<<16 + 3, 1<<16 + 4, 5<<16 + 2,
		1<<31 + 2, 1<<32 + 2, 1<<32 + 3, 1<<32 + 4, 1<<48 + 2, 1<<62 + 3,
		-1<<8 + 2, -1<<16 + 2, -1<<16 + 3, -1<<16 + 4, -1<<31 + 2, -1<<32 + 2, -1<<32 + 3, -1<<32 + 4, -1<<48 + 2,
		math.MinInt, math.MinInt + 2, math.MinInt + 3, math.MinInt + 4, math.MaxInt, math.MaxInt - 1,
	}
	wrongCounts = []int{
		-1, -2, -63, -64, -65, 65, 66, 127, 128, 255, 256,
		1<<8 + 1, 1<<8 + 64, 1 << 14, 1 << 15,
		1<<16 - 1, 1 << 16, 1<<16 + 1, 1<<16 + 64, 64 << 16, 7<<16 + 5,
		1 << 31, 1 << 32, 1<<32 + 1, 1<<32 + 64, 1<<48 + 1, 1<<62 + 1,
		-1 << 8, -1<<8 + 1, -1 << 16, -1<<16 + 1, -1<<16 + 64, -1 << 32, -1<<32 + 1, -1<<32 + 64, -1<<48 + 1,
		math.MinInt, math.MinInt + 1, math.MinInt + 64, math.MaxInt, math.MaxInt - 1,
	}
)

// numbers are some that Entry and Segs may be.
func numbers() []uint64 {
	return []uint64{0, 1, 64, 255, 256, 1<<16 - 1, 1 << 16, 1<<32 - 1, 1 << 32, 1<<63 - 1, 1 << 63, last - 1, last, 0x0123456789abcdef, 0xfedcba9876543210}
}

// heads are all valid kinds and counts, with numbers of each kind.
func heads() []Head {
	var l []Head
	for kind := 2; kind <= 4; kind++ {
		for count := range 65 {
			for i, x := range numbers() {
				y := numbers()[(i+kind+count)%len(numbers())]
				l = append(l, Head{kind, x, y, count}, Head{kind, y, x, count}, Head{kind, x, x, count})
			}
		}
	}
	return l
}

// may tells whether a head is valid.
func may(h Head) bool {
	return slices.Contains([]int{2, 3, 4}, h.Kind) && 0 <= h.Count && h.Count < 65
}

// plain are the bytes of a valid head, each number laid at its own index.
func plain(h Head) []byte {
	b := make([]byte, 64)
	copy(b, []byte{127, 69, 76, 70, 2, 1, 1})
	little := binary.LittleEndian
	little.PutUint16(b[16:], uint16(h.Kind))
	little.PutUint16(b[18:], 19823)
	little.PutUint32(b[20:], 1)
	little.PutUint64(b[24:], h.Entry)
	little.PutUint64(b[32:], h.Segs)
	little.PutUint16(b[52:], 64)
	little.PutUint16(b[54:], 56)
	little.PutUint16(b[56:], uint16(h.Count))
	return b
}

// told is what Get should tell of 64 bytes or more.
func told(b []byte) (Head, api.Errno) {
	little := binary.LittleEndian
	h := Head{
		Kind:  int(little.Uint16(b[16:])),
		Entry: little.Uint64(b[24:]),
		Segs:  little.Uint64(b[32:]),
		Count: int(little.Uint16(b[56:])),
	}
	if !may(h) || !bytes.Equal(b[:64], plain(h)) {
		return Head{}, api.ErrForm
	}
	return h, api.OK
}

// P3.1: the constants that the chapter gives.
func TestConstants(t *testing.T) {
	if Exe != 2 || Lib != 3 || Core != 4 || Size != 64 {
		t.Error(Exe, Lib, Core, Size)
	}
}

// P3.1: all 64 bytes, written out.
func TestPut(t *testing.T) {
	for _, c := range []struct {
		h    Head
		want []byte
	}{
		{Head{Lib, 0, 64, 1}, []byte{
			127, 69, 76, 70, 2, 1, 1, 0, 0, 0, 0, 0, 0, 0, 0, 0,
			3, 0, 0x6f, 0x4d, 1, 0, 0, 0, 0, 0, 0, 0, 0, 0, 0, 0,
			64, 0, 0, 0, 0, 0, 0, 0, 0, 0, 0, 0, 0, 0, 0, 0,
			0, 0, 0, 0, 64, 0, 56, 0, 1, 0, 0, 0, 0, 0, 0, 0,
		}},
		{Head{Lib, 5, 64, 1}, []byte{
			127, 69, 76, 70, 2, 1, 1, 0, 0, 0, 0, 0, 0, 0, 0, 0,
			3, 0, 0x6f, 0x4d, 1, 0, 0, 0, 5, 0, 0, 0, 0, 0, 0, 0,
			64, 0, 0, 0, 0, 0, 0, 0, 0, 0, 0, 0, 0, 0, 0, 0,
			0, 0, 0, 0, 64, 0, 56, 0, 1, 0, 0, 0, 0, 0, 0, 0,
		}},
		{Head{Exe, 0x8877665544332211, 0xffeeddccbbaa9900, 64}, []byte{
			127, 69, 76, 70, 2, 1, 1, 0, 0, 0, 0, 0, 0, 0, 0, 0,
			2, 0, 0x6f, 0x4d, 1, 0, 0, 0, 0x11, 0x22, 0x33, 0x44, 0x55, 0x66, 0x77, 0x88,
			0x00, 0x99, 0xaa, 0xbb, 0xcc, 0xdd, 0xee, 0xff, 0, 0, 0, 0, 0, 0, 0, 0,
			0, 0, 0, 0, 64, 0, 56, 0, 64, 0, 0, 0, 0, 0, 0, 0,
		}},
		{Head{Core, last, last, 0}, []byte{
			127, 69, 76, 70, 2, 1, 1, 0, 0, 0, 0, 0, 0, 0, 0, 0,
			4, 0, 0x6f, 0x4d, 1, 0, 0, 0, 255, 255, 255, 255, 255, 255, 255, 255,
			255, 255, 255, 255, 255, 255, 255, 255, 0, 0, 0, 0, 0, 0, 0, 0,
			0, 0, 0, 0, 64, 0, 56, 0, 0, 0, 0, 0, 0, 0, 0, 0,
		}},
		{Head{Exe, 0, 0, 0}, []byte{
			127, 69, 76, 70, 2, 1, 1, 0, 0, 0, 0, 0, 0, 0, 0, 0,
			2, 0, 0x6f, 0x4d, 1, 0, 0, 0, 0, 0, 0, 0, 0, 0, 0, 0,
			0, 0, 0, 0, 0, 0, 0, 0, 0, 0, 0, 0, 0, 0, 0, 0,
			0, 0, 0, 0, 64, 0, 56, 0, 0, 0, 0, 0, 0, 0, 0, 0,
		}},
	} {
		if b, e := Put(c.h); !bytes.Equal(b, c.want) || e != api.OK {
			t.Errorf("Put of %v: % x, %d; want % x", c.h, b, e, c.want)
		}
		if h, e := Get(c.want); h != c.h || e != api.OK {
			t.Errorf("Get of % x: %v, %d; want %v", c.want, h, e, c.h)
		}
	}
}

// P3.1: all valid kinds and counts, held against bytes laid at their indices.
func TestPutEverywhere(t *testing.T) {
	for _, h := range heads() {
		if b, e := Put(h); !bytes.Equal(b, plain(h)) || e != api.OK {
			t.Fatalf("Put of %v: % x, %d; want % x", h, b, e, plain(h))
		}
	}
}

// P3.1: each bit of Entry and Segs has its own place.
func TestPutEachBit(t *testing.T) {
	for bit := range 64 {
		x := uint64(1) << bit
		for _, h := range []Head{{Exe, x, 0, 0}, {Lib, 0, x, 64}, {Core, ^x, x, 7}} {
			if b, e := Put(h); !bytes.Equal(b, plain(h)) || e != api.OK {
				t.Errorf("Put of %v: % x, %d; want % x", h, b, e, plain(h))
			}
		}
	}
}

// P3.1: kinds and counts near the valid ones, in pairs.
func TestPutNear(t *testing.T) {
	for kind := -300; kind <= 300; kind++ {
		for count := -70; count <= 140; count++ {
			h := Head{kind, 1, 2, count}
			var want []byte
			err := api.ErrArg
			if may(h) {
				want, err = plain(h), api.OK
			}
			if b, e := Put(h); !bytes.Equal(b, want) || e != err {
				t.Fatalf("Put of %v: % x, %d; want % x, %d", h, b, e, want, err)
			}
		}
	}
}

// P3.1: ErrArg of a wrong kind, a wrong count or both, and no bytes.
func TestPutWrong(t *testing.T) {
	refuse := func(h Head) {
		if b, e := Put(h); len(b) != 0 || e != api.ErrArg {
			t.Errorf("Put of %v: % x, %d", h, b, e)
		}
	}
	refuse(Head{})
	refuse(Head{Kind: 5})
	refuse(Head{Kind: 5, Entry: 5, Segs: 64, Count: 1})
	for _, kind := range wrongKinds {
		for _, count := range []int{0, 1, 64} {
			refuse(Head{kind, 0, 64, count})
		}
		for _, count := range wrongCounts {
			refuse(Head{kind, last, last, count})
		}
	}
	for _, count := range wrongCounts {
		for _, kind := range []int{Exe, Lib, Core} {
			refuse(Head{kind, 0, 64, count})
		}
	}
}

// P3.1: ErrRange of up to 63 bytes, whatever they are and whatever lies behind the slice's end.
func TestGetShort(t *testing.T) {
	if h, e := Get(nil); h != (Head{}) || e != api.ErrRange {
		t.Error(h, e)
	}
	good := plain(Head{Lib, 5, 64, 1})
	for _, whole := range [][]byte{good, make([]byte, 64), bytes.Repeat([]byte{255}, 64)} {
		for n := range 64 {
			for _, b := range [][]byte{whole[:n], bytes.Clone(whole[:n]), whole[64-n:]} {
				if h, e := Get(b); h != (Head{}) || e != api.ErrRange {
					t.Errorf("Get of % x: %v, %d", b, h, e)
				}
			}
		}
	}
	for _, c := range []struct {
		b []byte
		e api.Errno
	}{
		{good[:63], api.ErrRange},
		{good, api.OK},
		{good[1:], api.ErrRange},
		{append([]byte{0}, good...), api.ErrForm},
		{append(bytes.Clone(good[1:]), 0), api.ErrForm},
		{make([]byte, 63), api.ErrRange},
		{make([]byte, 64), api.ErrForm},
		{bytes.Repeat([]byte{255}, 64), api.ErrForm},
		{make([]byte, 65), api.ErrForm},
		{bytes.Repeat(good[:1], 1000), api.ErrForm},
	} {
		if _, e := Get(c.b); e != c.e {
			t.Errorf("Get of % x: %d; want %d", c.b, e, c.e)
		}
	}
}

// P3.1: of too few bytes that are malformed too, ErrRange is told.
func TestGetShortAndWrong(t *testing.T) {
	for at := range 63 {
		b := plain(Head{Exe, 5, 64, 1})[:63]
		b[at] ^= 255
		if h, e := Get(b); h != (Head{}) || e != api.ErrRange {
			t.Errorf("Get of 63 bytes with another one at %d: %v, %d", at, h, e)
		}
	}
}

// P3.1: every other value of each one of the 64 bytes tells another head, or ErrForm.
func TestGetEachByte(t *testing.T) {
	for _, h := range []Head{{Exe, 0, 0, 0}, {Lib, 0x1122334455667788, 0x99aabbccddeeff00, 1}, {Core, last, last, 64}} {
		for at := range 64 {
			accepted := 0
			for c := range 256 {
				b := plain(h)
				b[at] = byte(c)
				want, err := told(b)
				if got, e := Get(b); got != want || e != err {
					t.Fatalf("Get of %v with %d at %d: %v, %d; want %v, %d", h, c, at, got, e, want, err)
				}
				if err == api.OK {
					accepted++
				}
			}
			// How many values are accepted follows from the number that the byte belongs to.
			want := 1
			switch {
			case at == 16:
				want = 3
			case at >= 24 && at < 40:
				want = 256
			case at == 56:
				want = 65
			}
			if accepted != want {
				t.Errorf("at %d are %d values accepted; want %d", at, accepted, want)
			}
		}
	}
}

// P3.1: which head is told when a byte of one of its numbers is another.
func TestGetChanged(t *testing.T) {
	first := Head{Lib, 5, 64, 1}
	for _, c := range []struct {
		at   int
		to   byte
		want Head
		e    api.Errno
	}{
		{16, 2, Head{Exe, 5, 64, 1}, api.OK},
		{16, 4, Head{Core, 5, 64, 1}, api.OK},
		{16, 1, Head{}, api.ErrForm},
		{16, 5, Head{}, api.ErrForm},
		{17, 1, Head{}, api.ErrForm},
		{24, 0, Head{Lib, 0, 64, 1}, api.OK},
		{25, 1, Head{Lib, 261, 64, 1}, api.OK},
		{31, 128, Head{Lib, 1<<63 + 5, 64, 1}, api.OK},
		{32, 0, Head{Lib, 5, 0, 1}, api.OK},
		{39, 255, Head{Lib, 5, 255<<56 + 64, 1}, api.OK},
		{40, 1, Head{}, api.ErrForm},
		{56, 0, Head{Lib, 5, 64, 0}, api.OK},
		{56, 64, Head{Lib, 5, 64, 64}, api.OK},
		{56, 65, Head{}, api.ErrForm},
		{57, 1, Head{}, api.ErrForm},
		{5, 2, Head{}, api.ErrForm},
		{0, 126, Head{}, api.ErrForm},
		{4, 1, Head{}, api.ErrForm},
		{15, 1, Head{}, api.ErrForm},
		{18, 62, Head{}, api.ErrForm},
		{20, 2, Head{}, api.ErrForm},
		{48, 1, Head{}, api.ErrForm},
		{52, 63, Head{}, api.ErrForm},
		{54, 64, Head{}, api.ErrForm},
		{58, 64, Head{}, api.ErrForm},
		{63, 1, Head{}, api.ErrForm},
	} {
		b := plain(first)
		b[c.at] = c.to
		if h, e := Get(b); h != c.want || e != c.e {
			t.Errorf("Get with %d at %d: %v, %d; want %v, %d", c.to, c.at, h, e, c.want, c.e)
		}
	}
}

// P3.1: all numbers that the bytes of Kind and those of Count can make.
func TestGetKindsAndCounts(t *testing.T) {
	for x := range 1 << 16 {
		for _, at := range []int{16, 56} {
			b := plain(Head{Core, 9, 120, 2})
			binary.LittleEndian.PutUint16(b[at:], uint16(x))
			want, err := told(b)
			if h, e := Get(b); h != want || e != err {
				t.Fatalf("Get with %d at %d: %v, %d; want %v, %d", x, at, h, e, want, err)
			}
		}
	}
}

// P3.2: Get tells what Put was given, whatever bytes follow.
func TestPutThenGet(t *testing.T) {
	for _, h := range heads() {
		first, e := Put(h)
		if e != api.OK {
			t.Fatalf("Put of %v: %d", h, e)
		}
		for _, behind := range [][]byte{nil, {0}, {255}, first, first[:63], bytes.Repeat([]byte{7}, 300)} {
			b := slices.Concat(first, behind)
			if got, e := Get(b); got != h || e != api.OK {
				t.Fatalf("Get of what Put answers of %v, with %d bytes behind: %v, %d", h, len(behind), got, e)
			}
		}
	}
}

// P3.2: of the head that Get tells, Put answers the same 64 bytes.
func TestGetThenPut(t *testing.T) {
	accepted := 0
	for _, first := range heads() {
		for _, at := range []int{0, 7, 16, 17, 18, 24, 31, 32, 39, 40, 52, 56, 57, 63} {
			for _, by := range []byte{0, 1, 6, 128} {
				b := append(plain(first), 1, 2, 3)
				b[at] ^= by
				h, e := Get(b)
				if e != api.OK {
					continue
				}
				accepted++
				if again, e := Put(h); !bytes.Equal(again, b[:64]) || e != api.OK {
					t.Fatalf("Put of what Get tells of % x: % x, %d", b, again, e)
				}
			}
		}
	}
	if accepted < 14*len(heads()) {
		t.Errorf("only %d were accepted", accepted)
	}
}

// P3.1: a result hangs on no other result, and Get leaves its bytes and those behind them as they are.
func TestNewMemory(t *testing.T) {
	h := Head{Lib, 5, 64, 1}
	first, _ := Put(h)
	second, _ := Put(h)
	for i := range first {
		first[i] = ^first[i]
	}
	// What is appended must not fall into what belongs to somebody else.
	first = append(first, 9, 9, 9)
	third, e := Put(h)
	if !bytes.Equal(second, plain(h)) || !bytes.Equal(third, plain(h)) || e != api.OK {
		t.Errorf("results of Put share memory: % x, % x, %d", second, third, e)
	}
	for _, wrong := range []byte{0, 1} {
		whole := append(plain(h), 1, 2, 3)
		whole[63] = wrong
		kept := bytes.Clone(whole)
		for _, b := range [][]byte{whole[:64], whole[:63], whole} {
			told, _ := Get(b)
			told.Entry++
			if !bytes.Equal(whole, kept) {
				t.Errorf("Get changed its bytes to % x", whole)
			}
		}
	}
}

// P3.1: nothing is left over from a call before.
func TestAgain(t *testing.T) {
	for range 3 {
		for _, h := range []Head{{Lib, 5, 64, 1}, {5, 5, 64, 1}, {Core, last, 0, 64}, {Exe, 0, last, 65}, {}} {
			var want []byte
			err := api.ErrArg
			if may(h) {
				want, err = plain(h), api.OK
			}
			if b, e := Put(h); !bytes.Equal(b, want) || e != err {
				t.Errorf("Put of %v: % x, %d", h, b, e)
			}
			if got, e := Get(make([]byte, 64)); got != (Head{}) || e != api.ErrForm {
				t.Errorf("Get of bytes 0: %v, %d", got, e)
			}
		}
	}
}
