package octets

import (
	"bytes"
	"math"
	"math/big"
	"slices"
	"testing"

	"dormouse/api"
)

// The greatest number, and a size beyond which no slice of a test goes.
const (
	last = uint64(math.MaxUint64)
	long = 20
)

// sizes are those that a number may have; wrong are some that it may not.
var (
	sizes = []int{1, 2, 4, 8}
	wrong = []int{math.MinInt, -8, -4, -2, -1, 0, 3, 5, 6, 7, 9, 16, 256, 1 << 32, math.MaxInt}
)

// places are near all edges of slices of up to long bytes, of halves, and of 2^64.
func places() []uint64 {
	var l []uint64
	for i := range uint64(long + 10) {
		l = append(l, i, last-i, 1<<63-1-i, 1<<63+i, 1<<32-1-i, 1<<32+i)
	}
	return l
}

// counted is the slice 0x81, 0x82 and so on, with room behind it that must not be used.
func counted(n int) []byte {
	b := make([]byte, n, n+16)
	for i := range b {
		b[i] = byte(0x81 + i)
	}
	return b
}

// inside tells by exact sums whether a slice of so many bytes contains a span.
func inside(length int, at, size uint64) bool {
	return sum(at, size).Cmp(big.NewInt(int64(length))) <= 0
}

func sum(a, b uint64) *big.Int {
	x, y := new(big.Int).SetUint64(a), new(big.Int).SetUint64(b)
	return x.Add(x, y)
}

// plain is the number of bytes, worked out by powers of 256.
func plain(b []byte) uint64 {
	x, power := uint64(0), uint64(1)
	for _, c := range b {
		x += uint64(c) * power
		power *= 256
	}
	return x
}

// P1.1
func TestGet(t *testing.T) {
	b := []byte{1, 2, 3, 4, 5, 6, 7, 8, 255}
	for _, c := range []struct {
		at   uint64
		n    int
		want uint64
		e    api.Errno
	}{
		{1, 2, 770, api.OK},
		{0, 1, 1, api.OK},
		{8, 1, 255, api.OK},
		{7, 2, 0xff08, api.OK},
		{5, 4, 0xff080706, api.OK},
		{0, 8, 0x0807060504030201, api.OK},
		{1, 8, 0xff08070605040302, api.OK},
		{2, 8, 0, api.ErrRange},
		{9, 1, 0, api.ErrRange},
		{8, 2, 0, api.ErrRange},
		{6, 4, 0, api.ErrRange},
		{last, 1, 0, api.ErrRange},
		{last, 2, 0, api.ErrRange},
		{last - 7, 8, 0, api.ErrRange},
		{1 << 63, 8, 0, api.ErrRange},
		{0, 3, 0, api.ErrArg},
		{0, 0, 0, api.ErrArg},
		{9, 0, 0, api.ErrArg},
		{0, -1, 0, api.ErrArg},
		{last, 3, 0, api.ErrArg},
	} {
		if x, e := Get(b, c.at, c.n); x != c.want || e != c.e {
			t.Errorf("Get at %d, n %d: %d, %d; want %d, %d", c.at, c.n, x, e, c.want, c.e)
		}
	}
}

// P1.1
func TestGetEverywhere(t *testing.T) {
	for length := range long {
		b := counted(length)
		for _, at := range places() {
			for _, n := range sizes {
				want, err := uint64(0), api.ErrRange
				if inside(length, at, uint64(n)) {
					want, err = plain(b[at:at+uint64(n)]), api.OK
				}
				if x, e := Get(b, at, n); x != want || e != err {
					t.Fatalf("Get of %d bytes at %d, n %d: %d, %d; want %d, %d", length, at, n, x, e, want, err)
				}
			}
		}
		if !bytes.Equal(b, counted(length)) {
			t.Fatal("Get changed its slice")
		}
	}
}

// P1.1
func TestSet(t *testing.T) {
	for _, c := range []struct {
		at   uint64
		n    int
		x    uint64
		want []byte
		e    api.Errno
	}{
		{0, 1, 0x1234, []byte{0x34, 2, 3, 4, 5, 6, 7, 8, 9}, api.OK},
		{8, 1, 0xff, []byte{1, 2, 3, 4, 5, 6, 7, 8, 0xff}, api.OK},
		{1, 2, 513, []byte{1, 1, 2, 4, 5, 6, 7, 8, 9}, api.OK},
		{1, 2, 0xabcdef, []byte{1, 0xef, 0xcd, 4, 5, 6, 7, 8, 9}, api.OK},
		{5, 4, 0x1_00000000, []byte{1, 2, 3, 4, 5, 0, 0, 0, 0}, api.OK},
		{1, 8, 0x8877665544332211, []byte{1, 0x11, 0x22, 0x33, 0x44, 0x55, 0x66, 0x77, 0x88}, api.OK},
		{0, 8, last, []byte{255, 255, 255, 255, 255, 255, 255, 255, 9}, api.OK},
		{2, 8, 1, nil, api.ErrRange},
		{9, 1, 1, nil, api.ErrRange},
		{last, 1, 1, nil, api.ErrRange},
		{last, 8, 1, nil, api.ErrRange},
		{last - 1, 2, 1, nil, api.ErrRange},
		{0, 3, 1, nil, api.ErrArg},
		{last, 0, 1, nil, api.ErrArg},
	} {
		b := []byte{1, 2, 3, 4, 5, 6, 7, 8, 9}
		if got, e := Set(b, c.at, c.n, c.x); !bytes.Equal(got, c.want) || e != c.e {
			t.Errorf("Set at %d, n %d, x %x: %x, %d; want %x, %d", c.at, c.n, c.x, got, e, c.want, c.e)
		}
		if !bytes.Equal(b, []byte{1, 2, 3, 4, 5, 6, 7, 8, 9}) {
			t.Errorf("Set at %d, n %d changed its slice", c.at, c.n)
		}
	}
	if b, e := Set([]byte{1, 2, 3}, 1, 2, 513); !bytes.Equal(b, []byte{1, 1, 2}) || e != api.OK {
		t.Error(b, e)
	}
}

// P1.1: ErrArg is told of every other n, ahead of ErrRange.
func TestWrongSizes(t *testing.T) {
	for _, b := range [][]byte{nil, {1}, counted(long)} {
		for _, at := range []uint64{0, 1, long, 1 << 63, last} {
			for _, n := range wrong {
				if x, e := Get(b, at, n); x != 0 || e != api.ErrArg {
					t.Errorf("Get of %d bytes at %d, n %d: %d, %d", len(b), at, n, x, e)
				}
				if s, e := Set(b, at, n, 1); len(s) != 0 || e != api.ErrArg {
					t.Errorf("Set of %d bytes at %d, n %d: %x, %d", len(b), at, n, s, e)
				}
			}
		}
	}
}

// P1.1
func TestCut(t *testing.T) {
	b := []byte{1, 2, 3, 4}
	for _, c := range []struct {
		at, size uint64
		want     []byte
		e        api.Errno
	}{
		{0, 4, []byte{1, 2, 3, 4}, api.OK},
		{1, 2, []byte{2, 3}, api.OK},
		{3, 1, []byte{4}, api.OK},
		{0, 0, nil, api.OK},
		{4, 0, nil, api.OK},
		{5, 0, nil, api.ErrRange},
		{last, 0, nil, api.ErrRange},
		{0, 5, nil, api.ErrRange},
		{4, 1, nil, api.ErrRange},
		{3, 2, nil, api.ErrRange},
		{0, last, nil, api.ErrRange},
		{1, last, nil, api.ErrRange},
		{4, last, nil, api.ErrRange},
		{last, 1, nil, api.ErrRange},
		{last, 2, nil, api.ErrRange},
		{last, last, nil, api.ErrRange},
		{last - 3, 8, nil, api.ErrRange},
		{1 << 63, 1 << 63, nil, api.ErrRange},
	} {
		if got, e := Cut(b, c.at, c.size); !bytes.Equal(got, c.want) || e != c.e {
			t.Errorf("Cut at %d, size %d: %x, %d; want %x, %d", c.at, c.size, got, e, c.want, c.e)
		}
	}
	if got, e := Cut([]byte{1}, last, 2); len(got) != 0 || e != api.ErrRange {
		t.Error(got, e)
	}
}

// P1.1
func TestCutEverywhere(t *testing.T) {
	for _, length := range []int{0, 1, 7, long} {
		b := counted(length)
		for _, at := range places() {
			for _, size := range places() {
				var want []byte
				err := api.ErrRange
				if inside(length, at, size) {
					want, err = b[at:at+size], api.OK
				}
				if got, e := Cut(b, at, size); !bytes.Equal(got, want) || e != err {
					t.Fatalf("Cut of %d bytes at %d, size %d: %x, %d; want %x, %d", length, at, size, got, e, want, err)
				}
			}
		}
		if !bytes.Equal(b, counted(length)) {
			t.Fatal("Cut changed its slice")
		}
	}
}

// P1.1: of no bytes there is just the span of size 0 at 0.
func TestNothing(t *testing.T) {
	for _, b := range [][]byte{nil, {}} {
		if got, e := Cut(b, 0, 0); len(got) != 0 || e != api.OK {
			t.Error(got, e)
		}
		if got, e := Cut(b, 1, 0); len(got) != 0 || e != api.ErrRange {
			t.Error(got, e)
		}
		if x, e := Get(b, 0, 1); x != 0 || e != api.ErrRange {
			t.Error(x, e)
		}
		if got, e := Set(b, 0, 1, 1); len(got) != 0 || e != api.ErrRange {
			t.Error(got, e)
		}
	}
}

// P1.1: the slice's own bytes and the room behind it stay as they are, whatever is done to a result.
func TestNewMemory(t *testing.T) {
	calls := []struct {
		name string
		call func(b []byte) ([]byte, api.Errno)
	}{
		{"Cut of all", func(b []byte) ([]byte, api.Errno) { return Cut(b, 0, uint64(len(b))) }},
		{"Cut of the middle", func(b []byte) ([]byte, api.Errno) { return Cut(b, 2, 3) }},
		{"Cut of nothing", func(b []byte) ([]byte, api.Errno) { return Cut(b, 2, 0) }},
		{"Set", func(b []byte) ([]byte, api.Errno) { return Set(b, 1, 2, 7) }},
		{"Set of the same", func(b []byte) ([]byte, api.Errno) { return Set(b, 0, 1, uint64(b[0])) }},
	}
	for _, c := range calls {
		whole := counted(long)
		b := whole[:8]
		first, e := c.call(b)
		second, f := c.call(b)
		if e != api.OK || f != api.OK {
			t.Fatal(c.name, e, f)
		}
		kept := slices.Clone(second)
		for i := range first {
			first[i] = ^first[i]
		}
		// What is appended must not fall into the room behind the slice.
		first = append(first, 99)
		if !bytes.Equal(second, kept) {
			t.Error(c.name, "shares memory with another result")
		}
		if !bytes.Equal(whole, counted(long)) {
			t.Error(c.name, "shares memory with its argument")
		}
		for i := range b {
			b[i] = 0
		}
		if !bytes.Equal(second, kept) {
			t.Error(c.name, "hangs on its argument")
		}
	}
}

// numbers are near all powers of 2, and some between.
func numbers() []uint64 {
	l := []uint64{0, 255, 257, 1000, 0x123456789abcdef0, 0xfedcba9876543210, 3 << 62, last}
	for i := range 64 {
		p := uint64(1) << i
		l = append(l, p-1, p, p+1, last-p, last-p+1, last-p+2)
	}
	return l
}

// P1.2
func TestRounding(t *testing.T) {
	for _, c := range []struct {
		x, a, down, up uint64
		e              api.Errno // of Up
	}{
		{257, 256, 256, 512, api.OK},
		{256, 256, 256, 256, api.OK},
		{255, 256, 0, 256, api.OK},
		{0, 256, 0, 0, api.OK},
		{0, 1, 0, 0, api.OK},
		{5, 1, 5, 5, api.OK},
		{5, 2, 4, 6, api.OK},
		{last, 1, last, last, api.OK},
		{last, 2, last - 1, 0, api.ErrRange},
		{last, 256, last - 255, 0, api.ErrRange},
		{last - 255, 256, last - 255, last - 255, api.OK},
		{last - 254, 256, last - 255, 0, api.ErrRange},
		{last - 256, 256, last - 511, last - 255, api.OK},
		{0, 1 << 63, 0, 0, api.OK},
		{1, 1 << 63, 0, 1 << 63, api.OK},
		{1 << 63, 1 << 63, 1 << 63, 1 << 63, api.OK},
		{1<<63 + 1, 1 << 63, 1 << 63, 0, api.ErrRange},
		{last, 1 << 63, 1 << 63, 0, api.ErrRange},
	} {
		if x, e := Down(c.x, c.a); x != c.down || e != api.OK {
			t.Errorf("Down of %d, %d: %d, %d; want %d", c.x, c.a, x, e, c.down)
		}
		if x, e := Up(c.x, c.a); x != c.up || e != c.e {
			t.Errorf("Up of %d, %d: %d, %d; want %d, %d", c.x, c.a, x, e, c.up, c.e)
		}
	}
}

// P1.2: held against quotients of great numbers.
func TestRoundingEverywhere(t *testing.T) {
	top := new(big.Int).Lsh(big.NewInt(1), 64)
	for _, x := range numbers() {
		for i := range 64 {
			a := uint64(1) << i
			if got, e := Down(x, a); got != x/a*a || e != api.OK {
				t.Fatalf("Down of %d, %d: %d, %d", x, a, got, e)
			}
			up := sum(x, a-1)
			up.Sub(up, new(big.Int).Mod(up, new(big.Int).SetUint64(a)))
			want, err := up.Uint64(), api.OK
			if up.Cmp(top) == 0 {
				want, err = 0, api.ErrRange
			}
			if got, e := Up(x, a); got != want || e != err {
				t.Fatalf("Up of %d, %d: %d, %d; want %d, %d", x, a, got, e, want, err)
			}
		}
	}
}

// P1.2: of an a that is no power of 2, ErrArg is told, ahead of ErrRange.
func TestNoPower(t *testing.T) {
	as := []uint64{0, 3, 5, 6, 7, 9, 10, 12, 255, 257, 384, 1<<32 + 1, 1<<63 - 1, 1<<63 + 1, 3 << 62, last - 1, last}
	for _, x := range []uint64{0, 1, 3, 256, 1 << 63, last - 1, last} {
		for _, a := range as {
			if got, e := Down(x, a); got != 0 || e != api.ErrArg {
				t.Errorf("Down of %d, %d: %d, %d", x, a, got, e)
			}
			if got, e := Up(x, a); got != 0 || e != api.ErrArg {
				t.Errorf("Up of %d, %d: %d, %d", x, a, got, e)
			}
		}
	}
}

// P1.3
func TestMeet(t *testing.T) {
	for _, c := range []struct {
		a, m, b, n uint64
		want       bool
	}{
		{0, 5, 5, 2, false},
		{0, 6, 5, 2, true},
		{5, 2, 0, 5, false},
		{5, 2, 0, 6, true},
		{3, 4, 3, 4, true},
		{3, 1, 3, 9, true},
		{0, 10, 4, 1, true},
		{4, 1, 0, 10, true},
		{0, 0, 0, 0, false},
		{3, 0, 3, 0, false},
		{3, 0, 0, 10, false},
		{0, 10, 3, 0, false},
		{0, 10, 0, 0, false},
		{0, 0, 0, 10, false},
		{0, last, last, 1, false},
		{1, last, last, 1, true},
		{0, last, last - 1, 1, true},
		{last, 1, last, 1, true},
		{last, 2, 0, 1, false},
		{last, 2, 0, last, false},
		{0, 1, last, 2, false},
		{last, last, 0, last, false},
		{last, last, 1, last, true},
		{1, last, last, last, true},
		{last - 1, 1, last, last, false},
		{last - 1, 2, last, last, true},
		{1 << 63, 1 << 63, 0, 1 << 63, false},
		{1 << 63, 1 << 63, 1, 1 << 63, true},
		{last, 0, last, last, false},
	} {
		if got := Meet(c.a, c.m, c.b, c.n); got != c.want {
			t.Errorf("Meet of %d %d, %d %d: %v", c.a, c.m, c.b, c.n, got)
		}
	}
}

// P1.3: each index of small spans is gone through.
func TestMeetSmall(t *testing.T) {
	const most = 7
	for a := range uint64(most) {
		for m := range uint64(most) {
			for b := range uint64(most) {
				for n := range uint64(most) {
					want := false
					for i := range m {
						want = want || a+i >= b && a+i < b+n
					}
					if got := Meet(a, m, b, n); got != want {
						t.Fatalf("Meet of %d %d, %d %d: %v", a, m, b, n, got)
					}
				}
			}
		}
	}
}

// P1.3: by exact sums, near 2^64.
func TestMeetGreat(t *testing.T) {
	l := []uint64{0, 1, 2, 1<<63 - 1, 1 << 63, 1<<63 + 1, last - 2, last - 1, last}
	for _, a := range l {
		for _, m := range l {
			for _, b := range l {
				for _, n := range l {
					// What both have begins at the greater start and ends at the lesser end.
					end := sum(a, m)
					if other := sum(b, n); other.Cmp(end) < 0 {
						end = other
					}
					want := m > 0 && n > 0 && sum(max(a, b), 0).Cmp(end) < 0
					if got := Meet(a, m, b, n); got != want {
						t.Fatalf("Meet of %d %d, %d %d: %v", a, m, b, n, got)
					}
				}
			}
		}
	}
}

// P1.4: what Set wrote is what Get tells and Cut cuts, and the rest is as it was.
func TestSetThenGet(t *testing.T) {
	for length := range long {
		for at := range uint64(length + 3) {
			for _, n := range sizes {
				for _, x := range []uint64{0, 1, 0xff, 0x8000, 0x0123456789abcdef, 0xfedcba9876543210, last} {
					setThenGet(t, length, at, n, x)
				}
			}
		}
	}
}

func setThenGet(t *testing.T, length int, at uint64, n int, x uint64) {
	t.Helper()
	b := counted(length)
	got, e := Set(b, at, n, x)
	if !bytes.Equal(b, counted(length)) {
		t.Fatalf("Set of %d bytes at %d, n %d changed its slice", length, at, n)
	}
	if !inside(length, at, uint64(n)) {
		if len(got) != 0 || e != api.ErrRange {
			t.Fatalf("Set of %d bytes at %d, n %d: %x, %d", length, at, n, got, e)
		}
		return
	}
	if len(got) != length || e != api.OK {
		t.Fatalf("Set of %d bytes at %d, n %d: %x, %d", length, at, n, got, e)
	}
	want := x
	if n < 8 {
		want = x % (1 << (8 * n))
	}
	if y, f := Get(got, at, n); y != want || f != api.OK {
		t.Fatalf("Get of what Set wrote, %d bytes at %d, n %d: %d, %d; want %d", length, at, n, y, f, want)
	}
	if cut, f := Cut(got, at, uint64(n)); len(cut) != n || plain(cut) != want || f != api.OK {
		t.Fatalf("Cut of what Set wrote, %d bytes at %d, n %d: %x, %d", length, at, n, cut, f)
	}
	end := at + uint64(n)
	if !bytes.Equal(got[:at], b[:at]) || !bytes.Equal(got[end:], b[end:]) {
		t.Fatalf("Set of %d bytes at %d, n %d: %x", length, at, n, got)
	}
}

// P1.4: Down is at most x, Up at least, both are multiples, and a or 0 lies between.
func TestDownAndUp(t *testing.T) {
	for _, x := range numbers() {
		for i := range 64 {
			a := uint64(1) << i
			down, _ := Down(x, a)
			if down > x || x-down >= a || down%a != 0 {
				t.Fatalf("Down of %d, %d: %d", x, a, down)
			}
			up, e := Up(x, a)
			if e == api.ErrRange {
				continue
			}
			if e != api.OK || up < x || up-x >= a || up%a != 0 {
				t.Fatalf("Up of %d, %d: %d, %d", x, a, up, e)
			}
			if d := up - down; d != 0 && d != a || (d == 0) != (x%a == 0) {
				t.Fatalf("Up and Down of %d, %d: %d, %d", x, a, up, down)
			}
		}
	}
}
