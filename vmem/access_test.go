package vmem

import (
	"bytes"
	"fmt"
	"math"
	"slices"
	"testing"

	"dormouse/api"
)

// widths are the numbers of bytes that Load and Store take.
var widths = []int{1, 2, 4, 8}

// wrongWidths are others.
var wrongWidths = []int{0, 3, 5, 6, 7, 9, 10, 12, 15, 16, 32, 64, 255, 256, 257, 512, -1, -2, -4, -8, -255,
	math.MaxInt, math.MinInt, 1<<32 + 1, 1<<32 + 8, 1 << 32}

// values are numbers whose bytes differ.
var values = []uint64{0, 1, 7, 0x80, 0xff, 0x100, 0x8001, 0x04030201, 0x8877665544332211, 1 << 63, math.MaxUint64, 0xfffefdfcfbfaf9f8}

// little are the n lowest bytes of a number, the lowest first.
func little(n int, x uint64) []byte {
	var b []byte
	for range n {
		b = append(b, byte(x%256))
		x /= 256
	}
	return b
}

// number is the one of such bytes.
func number(b []byte) uint64 {
	x := uint64(0)
	for i := len(b) - 1; i >= 0; i-- {
		x = x*256 + uint64(b[i])
	}
	return x
}

// peeked are bytes that Peek answers.
func peeked(t *testing.T, s *Space, addr, size uint64) []byte {
	t.Helper()
	b, e := s.Peek(addr, size)
	good(t, fmt.Sprintf("Peek of %d, %d", addr, size), e)
	return b
}

// loads fails the test unless Load answers a number and changes nothing.
func loads(t *testing.T, s *Space, addr uint64, n int, want uint64) {
	t.Helper()
	l := s.Pages()
	if x, e := s.Load(addr, n); x != want || e != api.OK {
		t.Fatalf("Load of %d, %d: %d, %d; want %d", addr, n, x, e, want)
	}
	has(t, s, l...)
}

// failsLoad fails the test unless Load answers an error, 0 beside it, and changes nothing.
func failsLoad(t *testing.T, s *Space, addr uint64, n int, err api.Errno) {
	t.Helper()
	fails(t, fmt.Sprintf("Load of %d, %d", addr, n), s, err, func() api.Errno {
		x, e := s.Load(addr, n)
		if x != 0 {
			t.Fatalf("Load of %d, %d: %d beside %d", addr, n, x, e)
		}
		return e
	})
}

// failsStore fails the test unless Store answers an error and changes nothing.
func failsStore(t *testing.T, s *Space, addr uint64, n int, err api.Errno) {
	t.Helper()
	for _, x := range []uint64{0, 1, math.MaxUint64} {
		fails(t, fmt.Sprintf("Store of %d, %d, %d", addr, n, x), s, err, func() api.Errno { return s.Store(addr, n, x) })
	}
}

// failsBoth fails the test unless Load and Store answer an error and change nothing.
func failsBoth(t *testing.T, s *Space, addr uint64, n int, err api.Errno) {
	t.Helper()
	failsLoad(t, s, addr, n, err)
	failsStore(t, s, addr, n, err)
}

// failsFetch fails the test unless Fetch answers an error, 0 beside it, and changes nothing.
func failsFetch(t *testing.T, s *Space, addr uint64, err api.Errno) {
	t.Helper()
	fails(t, fmt.Sprintf("Fetch of %d", addr), s, err, func() api.Errno {
		x, e := s.Fetch(addr)
		if x != 0 {
			t.Fatalf("Fetch of %d: %d beside %d", addr, x, e)
		}
		return e
	})
}

// failsBytes fails the test unless Peek and Poke answer an error, no bytes beside it, and change nothing.
func failsBytes(t *testing.T, s *Space, addr, size uint64, err api.Errno) {
	t.Helper()
	fails(t, fmt.Sprintf("Peek of %d, %d", addr, size), s, err, func() api.Errno {
		b, e := s.Peek(addr, size)
		if len(b) != 0 {
			t.Fatalf("Peek of %d, %d: %v beside %d", addr, size, b, e)
		}
		return e
	})
	// Poke has no size but that of bytes.
	if size <= 1<<20 {
		b := bytes.Repeat([]byte{255}, int(size))
		fails(t, fmt.Sprintf("Poke of %d, %d bytes", addr, size), s, err, func() api.Errno { return s.Poke(addr, b) })
	}
}

// P13.3: Load answers the n bytes from addr on, the lowest first, within a page and over the border of two.
func TestLoad(t *testing.T) {
	s := made(t, counted(256, 4, 1), counted(512, 6, 130), counted(top-256, 7, 77))
	all := append(counted(256, 4, 1).Bytes, counted(512, 6, 130).Bytes...)
	for at := range uint64(512) {
		for _, n := range widths {
			if at+uint64(n) <= 512 {
				loads(t, s, 256+at, n, number(all[at:at+uint64(n)]))
			}
		}
	}
	last := counted(top-256, 7, 77).Bytes
	for at := range uint64(256) {
		for _, n := range widths {
			if at+uint64(n) <= 256 {
				loads(t, s, top-256+at, n, number(last[at:at+uint64(n)]))
			}
		}
	}
	loads(t, s, 256, 1, 1)
	loads(t, s, 256, 2, 0x0201)
	loads(t, s, 256, 4, 0x04030201)
	loads(t, s, 256, 8, 0x0807060504030201)
	loads(t, s, 511, 2, 0x8200)
	loads(t, s, 510, 4, 0x838200ff)
	loads(t, s, 508, 8, 0x8584838200fffefd)
}

// P13.3: Store stores the n lowest bytes of x, and changes no other byte.
func TestStore(t *testing.T) {
	for _, n := range widths {
		for at := range 512 - n + 1 {
			for _, x := range values {
				s := made(t, counted(256, 6, 1), counted(512, 2, 130))
				all := append(counted(256, 6, 1).Bytes, counted(512, 2, 130).Bytes...)
				copy(all[at:], little(n, x))
				good(t, "Store", s.Store(256+uint64(at), n, x))
				first, second := blank(256, 6), blank(512, 2)
				first.Bytes, second.Bytes = all[:256:256], all[256:]
				first.Dirty, second.Dirty = at < 256, at+n > 256
				has(t, s, first, second)
			}
		}
	}
}

// P13.3: bytes of x above the n lowest are not stored.
func TestStoreLowBytes(t *testing.T) {
	x := uint64(0x8877665544332211)
	for n, want := range map[int][]byte{1: {0x11, 9, 9, 9, 9, 9, 9, 9}, 2: {0x11, 0x22, 9, 9, 9, 9, 9, 9},
		4: {0x11, 0x22, 0x33, 0x44, 9, 9, 9, 9}, 8: {0x11, 0x22, 0x33, 0x44, 0x55, 0x66, 0x77, 0x88}} {
		s := made(t, written(blank(0, 2), 8, 9, 9, 9, 9, 9, 9, 9, 9))
		good(t, "Store", s.Store(8, n, x))
		has(t, s, dirty(written(blank(0, 2), 8, want...)))
	}
}

// P13.3: the example: over the border of two pages, both of which are Dirty then.
func TestStoreOverBorder(t *testing.T) {
	s := New()
	good(t, "Map", s.Map(256, 512, 6, "f", 256))
	good(t, "Store", s.Store(508, 8, 7))
	loads(t, s, 508, 8, 7)
	has(t, s, dirty(written(from(256, 6, "f", 256), 252, 7)), dirty(from(512, 6, "f", 512)))
	failsLoad(t, s, 764, 8, api.ErrMap)
	failsFetch(t, s, 256, api.ErrProt)
}

// P13.3: only pages of the span become Dirty, also those that had the bytes already, and stay so.
func TestStoreDirty(t *testing.T) {
	s := mapped(t, 0, 1024, 6)
	good(t, "Store", s.Store(504, 8, 0))
	has(t, s, blank(0, 6), dirty(blank(256, 6)), blank(512, 6), blank(768, 6))
	good(t, "Store", s.Store(768, 1, 0))
	has(t, s, blank(0, 6), dirty(blank(256, 6)), blank(512, 6), dirty(blank(768, 6)))
	good(t, "Store", s.Store(767, 1, 0))
	has(t, s, blank(0, 6), dirty(blank(256, 6)), dirty(blank(512, 6)), dirty(blank(768, 6)))
	good(t, "Store", s.Store(504, 4, 0))
	good(t, "Protect", s.Protect(256, 256, 0))
	has(t, s, blank(0, 6), dirty(blank(256, 0)), dirty(blank(512, 6)), dirty(blank(768, 6)))
	for at := uint64(249); at < 256; at++ {
		s = mapped(t, 0, 512, 6)
		good(t, "Store", s.Store(at, 8, 0))
		has(t, s, dirty(blank(0, 6)), dirty(blank(256, 6)))
	}
	for _, at := range []uint64{0, 8, 248} {
		s = mapped(t, 0, 512, 6)
		good(t, "Store", s.Store(at, 8, 0))
		has(t, s, dirty(blank(0, 6)), blank(256, 6))
	}
}

// P13.3: calls that only read make no page Dirty, nor does a Store with an error.
func TestNotDirty(t *testing.T) {
	s := mapped(t, 0, 512, 7)
	loads(t, s, 252, 8, 0)
	if _, e := s.Fetch(8); e != api.OK {
		t.Fatalf("Fetch: %d", e)
	}
	peeked(t, s, 0, 512)
	good(t, "Protect", s.Protect(0, 512, 6))
	good(t, "Poke", s.Poke(250, []byte{0, 0, 0, 0, 0, 0, 0, 0}))
	failsStore(t, s, 508, 8, api.ErrMap)
	failsStore(t, s, 0, 3, api.ErrArg)
	good(t, "Protect", s.Protect(256, 256, 5))
	failsStore(t, s, 252, 8, api.ErrProt)
	has(t, s, blank(0, 6), blank(256, 5))
}

// P13.3: ErrArg unless n is 1, 2, 4 or 8, ahead of the other errors.
func TestWrongWidths(t *testing.T) {
	for _, n := range wrongWidths {
		for _, addr := range []uint64{0, 1, 255, 256, 510, 511, 512, 600, 1024, 1 << 20, top - 8, top - 1, top, 1 << 63, math.MaxUint64 - 7, math.MaxUint64} {
			failsBoth(t, edges(t), addr, n, api.ErrArg)
			failsBoth(t, mapped(t, 0, 1024, 7), addr, n, api.ErrArg)
			failsBoth(t, mapped(t, 0, 1024, 0), addr, n, api.ErrArg)
			failsBoth(t, New(), addr, n, api.ErrArg)
		}
	}
}

// P13.3: ErrMap where the first page of a span does not exist, or the second, or both.
func TestAccessGaps(t *testing.T) {
	s := made(t, blank(256, 6), blank(768, 6), blank(top-256, 6))
	for _, n := range widths {
		size := uint64(n)
		for first := 256 - size; first < 1024+8; first++ {
			last := first + size - 1
			inside := first >= 256 && last < 512 || first >= 768 && last < 1024
			if inside {
				loads(t, s, first, n, 0)
			} else {
				failsBoth(t, s, first, n, api.ErrMap)
			}
		}
		failsBoth(t, New(), 0, n, api.ErrMap)
	}
}

// P13.3: ErrMap unless the span ends at 2^32 or below, also where its sum goes over 2^64.
func TestAccessEnds(t *testing.T) {
	for _, n := range widths {
		s := mapped(t, top-256, 256, 6)
		good(t, "Map", s.Map(0, 512, 6, "", 0))
		size := uint64(n)
		for back := range 8 + size {
			if back >= size {
				loads(t, s, top-back, n, 0)
				continue
			}
			failsBoth(t, s, top-back, n, api.ErrMap)
		}
		for addr := top; addr < top+10; addr++ {
			failsBoth(t, s, addr, n, api.ErrMap)
		}
		for _, addr := range []uint64{2*top - 256, 2 * top, 2*top + 8, 1 << 63, 1<<63 + 256, 1<<63 - 1, math.MaxUint64 - 256, math.MaxUint64 - 255} {
			failsBoth(t, s, addr, n, api.ErrMap)
		}
		for back := range uint64(20) {
			failsBoth(t, s, math.MaxUint64-back, n, api.ErrMap)
		}
		good(t, "Store", s.Store(top-size, n, math.MaxUint64))
		want := dirty(written(blank(top-256, 6), 256-n, bytes.Repeat([]byte{255}, n)...))
		has(t, s, blank(0, 6), blank(256, 6), want)
	}
}

// P13.3: Load asks for Read and Store for Write of each page of the span.
func TestAccessProts(t *testing.T) {
	reads := []bool{false, false, false, false, true, true, true, true}
	writes := []bool{false, false, true, true, false, false, true, true}
	for first := range 8 {
		for second := range 8 {
			s := made(t, counted(256, first, 3), counted(512, second, 50))
			all := append(counted(256, first, 3).Bytes, counted(512, second, 50).Bytes...)
			for _, n := range widths {
				for at := 240; at < 264; at++ {
					read, write := true, true
					if at < 256 {
						read, write = reads[first], writes[first]
					}
					if at+n > 256 {
						read, write = read && reads[second], write && writes[second]
					}
					addr := 256 + uint64(at)
					if read {
						loads(t, s, addr, n, number(all[at:at+n]))
					} else {
						failsLoad(t, s, addr, n, api.ErrProt)
					}
					if !write {
						failsStore(t, s, addr, n, api.ErrProt)
						continue
					}
					c := s.Copy()
					good(t, "Store", c.Store(addr, n, 0))
					b := slices.Clone(all)
					copy(b[at:], make([]byte, n))
					if !bytes.Equal(peeked(t, c, 256, 512), b) {
						t.Fatalf("Store of %d, %d: %v", addr, n, peeked(t, c, 256, 512))
					}
				}
			}
		}
	}
}

// P13.3: ErrMap is ahead of ErrProt, whichever of the two pages lacks what.
func TestAccessOrder(t *testing.T) {
	for prot := range 8 {
		s := made(t, blank(256, prot), blank(1024, prot), blank(top-256, prot))
		for _, n := range []int{2, 4, 8} {
			failsBoth(t, s, 511, n, api.ErrMap)
			failsBoth(t, s, 255, n, api.ErrMap)
			failsBoth(t, s, 1023, n, api.ErrMap)
			failsBoth(t, s, top-1, n, api.ErrMap)
		}
		failsBoth(t, s, 512, 1, api.ErrMap)
		failsBoth(t, s, top, 1, api.ErrMap)
		failsBoth(t, s, 511, 3, api.ErrArg)
		failsBoth(t, s, 256, 0, api.ErrArg)
	}
}

// P13.3: Fetch answers the eight bytes at multiples of 8, of pages with Exec.
func TestFetch(t *testing.T) {
	for prot := range 8 {
		p := counted(256, prot, 201)
		s := made(t, p, counted(512, prot^7, 5), counted(top-256, prot, 9))
		for at := uint64(0); at < 256; at += 8 {
			if prot&1 == 0 {
				failsFetch(t, s, 256+at, api.ErrProt)
				failsFetch(t, s, top-256+at, api.ErrProt)
				continue
			}
			l := s.Pages()
			if x, e := s.Fetch(256 + at); x != number(p.Bytes[at:at+8]) || e != api.OK {
				t.Fatalf("Fetch of %d: %x, %d", 256+at, x, e)
			}
			if x, e := s.Fetch(top - 256 + at); x != number(l[2].Bytes[at:at+8]) || e != api.OK {
				t.Fatalf("Fetch of %d: %x, %d", top-256+at, x, e)
			}
			has(t, s, l...)
		}
	}
	s := made(t, written(blank(0, 1), 248, 1, 2, 3, 4, 5, 6, 7, 8))
	if x, e := s.Fetch(248); x != 0x0807060504030201 || e != api.OK {
		t.Fatalf("Fetch: %x, %d", x, e)
	}
}

// P13.3: Fetch is ErrArg unless addr is a multiple of 8, ahead of the other errors.
func TestFetchWrong(t *testing.T) {
	for prot := range 8 {
		s := mapped(t, 256, 512, prot)
		for _, base := range []uint64{0, 248, 256, 264, 504, 512, 760, 768, 1 << 20, top - 8, top, 1 << 63, math.MaxUint64 - 7} {
			for k := range uint64(7) {
				failsFetch(t, s, base+k+1, api.ErrArg)
			}
		}
	}
}

// P13.3: Fetch is ErrMap unless the page exists, ahead of ErrProt.
func TestFetchGaps(t *testing.T) {
	for prot := range 8 {
		s := made(t, blank(256, prot), blank(top-256, prot))
		for _, addr := range []uint64{0, 8, 240, 248, 512, 520, 768, 1 << 20, top - 512, top - 264, top, top + 8, top + 256, 1 << 63, math.MaxUint64 - 255, math.MaxUint64 - 7} {
			failsFetch(t, s, addr, api.ErrMap)
			failsFetch(t, New(), addr, api.ErrMap)
		}
	}
}

// P13.4: Peek answers a copy of the bytes of any span, whatever the protections.
func TestPeek(t *testing.T) {
	var l []Page
	var all []byte
	for i := range 8 {
		p := counted(256+uint64(i)*256, i, byte(i*31))
		l = append(l, p)
		all = append(all, p.Bytes...)
	}
	s := made(t, l...)
	for _, at := range []uint64{0, 1, 7, 128, 255, 256, 257, 511, 512, 1024, 1791, 1792, 2040, 2047, 2048} {
		for _, size := range []uint64{0, 1, 2, 3, 8, 255, 256, 257, 511, 512, 513, 1024, 2047, 2048} {
			if at+size > 2048 {
				failsBytes(t, s, 256+at, size, api.ErrMap)
				continue
			}
			if b := peeked(t, s, 256+at, size); !bytes.Equal(b, all[at:at+size]) {
				t.Fatalf("Peek of %d, %d: %v", 256+at, size, b)
			}
		}
	}
	has(t, s, l...)
}

// P13.4: what Peek answers is new memory.
func TestPeekNewMemory(t *testing.T) {
	s := made(t, counted(256, 6, 1), counted(512, 6, 2))
	b, other := peeked(t, s, 256, 512), peeked(t, s, 256, 512)
	clear(b)
	b = append(peeked(t, s, 260, 8), 1, 2, 3)
	clear(b)
	c := peeked(t, s, 260, 8)
	clear(c[:cap(c)])
	has(t, s, counted(256, 6, 1), counted(512, 6, 2))
	if !bytes.Equal(other, append(counted(256, 6, 1).Bytes, counted(512, 6, 2).Bytes...)) {
		t.Fatal("one Peek shares memory with another")
	}
	good(t, "Poke", s.Poke(256, []byte{99}))
	if other[0] != 1 {
		t.Fatal("Peek shares memory with the Space")
	}
}

// P13.4: Poke stores the bytes, whatever the protections, and changes no Dirty flag and no other byte.
func TestPoke(t *testing.T) {
	for prot := range 8 {
		for _, size := range []int{1, 2, 7, 8, 9, 255, 256, 257, 300, 512, 600} {
			for _, at := range []int{0, 1, 100, 248, 255, 256, 257, 500, 511, 512, 767} {
				if at+size > 768 {
					continue
				}
				l := []Page{counted(0, prot, 3), dirty(counted(256, 7-prot, 4)), counted(512, prot, 5)}
				s := made(t, l...)
				b := bytes.Repeat([]byte{200, 100, 50}, size)[:size]
				given := slices.Clone(b)
				good(t, "Poke", s.Poke(uint64(at), b))
				if !bytes.Equal(b, given) {
					t.Fatal("Poke changed its bytes")
				}
				all := slices.Concat(l[0].Bytes, l[1].Bytes, l[2].Bytes)
				copy(all[at:], b)
				l[0].Bytes, l[1].Bytes, l[2].Bytes = all[:256:256], all[256:512:512], all[512:]
				has(t, s, l...)
				clear(b)
				has(t, s, l...)
			}
		}
	}
}

// P13.4: Peek and Poke of no bytes are right at any address.
func TestNoBytes(t *testing.T) {
	for _, s := range []*Space{New(), edges(t), mapped(t, 0, 512*256, 0)} {
		l := s.Pages()
		for _, addr := range []uint64{0, 1, 255, 256, 768, 1000, 1 << 20, top - 1, top, top + 1, 2 * top, 1 << 63, math.MaxUint64 - 255, math.MaxUint64} {
			if b, e := s.Peek(addr, 0); len(b) != 0 || e != api.OK {
				t.Fatalf("Peek of %d, 0: %v, %d", addr, b, e)
			}
			good(t, fmt.Sprintf("Poke of %d", addr), s.Poke(addr, nil))
			good(t, fmt.Sprintf("Poke of %d", addr), s.Poke(addr, []byte{}))
			has(t, s, l...)
		}
	}
}

// P13.4: Peek and Poke are ErrMap over a gap, ahead of the pages, behind them, and beyond 2^32.
func TestBytesGaps(t *testing.T) {
	s := edges(t)
	for _, r := range []span{
		{0, 769}, {767, 2}, {768, 1}, {700, 400}, {512, 768}, {0, 1280}, {1023, 1}, {1023, 2}, {1000, 100}, {1024, 257},
		{1279, 2}, {1280, 1}, {1280, 256}, {top - 513, 1}, {top - 513, 2}, {top - 513, 513}, {top - 1, 2}, {top - 256, 257}, {top - 512, 513},
		{top - 512, 768}, {top, 1}, {top, 256}, {top + 1, 1}, {2 * top, 8}, {2*top - 256, 8}, {1 << 63, 8},
		{math.MaxUint64, 1}, {math.MaxUint64, 2}, {math.MaxUint64 - 7, 8}, {math.MaxUint64 - 7, 9}, {math.MaxUint64 - 255, 512},
		{0, top}, {0, top + 1}, {0, math.MaxUint64}, {1, math.MaxUint64}, {256, math.MaxUint64 - 255}, {256, math.MaxUint64 - 254},
		{512, math.MaxUint64 - 511}, {512, math.MaxUint64}, {top - 512, math.MaxUint64}, {top - 256, math.MaxUint64 - top + 258}, {1 << 63, 1 << 63}, {1<<63 + 1, 1 << 63},
	} {
		failsBytes(t, s, r.addr, r.size, api.ErrMap)
		failsBytes(t, New(), r.addr, r.size, api.ErrMap)
	}
	for at := range 5 {
		s := made(t, slices.Delete(run(256, 5), at, at+1)...)
		failsBytes(t, s, 256, 5*256, api.ErrMap)
		failsBytes(t, s, 300, 5*256-100, api.ErrMap)
	}
}

// P13.4: Peek and Poke of all pages that there may be.
func TestBytesOfAllPages(t *testing.T) {
	s := mapped(t, top-512*256, 512*256, 0)
	b := make([]byte, 512*256)
	for i := range b {
		b[i] = byte(i) ^ byte(i>>8)
	}
	good(t, "Poke", s.Poke(top-512*256, b))
	if !bytes.Equal(peeked(t, s, top-512*256, 512*256), b) {
		t.Fatal("Peek of what was poked")
	}
	failsBytes(t, s, top-512*256, 512*256+1, api.ErrMap)
	failsBytes(t, s, top-512*256-1, 512*256, api.ErrMap)
}

// P13.4: Pages answers all pages by rising Addr, in whichever order they were added.
func TestPages(t *testing.T) {
	has(t, New())
	if l := New().Pages(); len(l) != 0 {
		t.Fatalf("Pages of none: %v", l)
	}
	s := New()
	var want []Page
	// 137 has no divisor in common with 512, so that each page comes once.
	for i := range uint64(512) {
		k := i * 137 % 512
		good(t, "Map", s.Map(k*k*256, 256, int(k%8), fmt.Sprint(k%3), k))
		if _, e := s.Peek(k*k*256, 256); e != api.OK {
			t.Fatalf("Peek: %d", e)
		}
	}
	for k := range uint64(512) {
		want = append(want, from(k*k*256, int(k%8), fmt.Sprint(k%3), k))
	}
	for range 3 {
		has(t, s, want...)
	}
	s = New()
	for _, addr := range []uint64{top - 256, 0, 512, 1 << 31, 256} {
		good(t, "Map", s.Map(addr, 256, 6, "", 0))
	}
	has(t, s, blank(0, 6), blank(256, 6), blank(512, 6), blank(1<<31, 6), blank(top-256, 6))
}

// P13.4: what Pages answers is new memory.
func TestPagesNewMemory(t *testing.T) {
	s := made(t, counted(256, 6, 1), counted(512, 6, 2))
	l, other := s.Pages(), s.Pages()
	for i := range l {
		clear(l[i].Bytes)
		_ = append(l[i].Bytes, 7, 7, 7)
		clear(l[i].Bytes[:cap(l[i].Bytes)])
		l[i] = Page{}
	}
	has(t, s, counted(256, 6, 1), counted(512, 6, 2))
	good(t, "Store", s.Store(256, 8, 0))
	good(t, "Poke", s.Poke(512, make([]byte, 256)))
	good(t, "Unmap", s.Unmap(256, 256))
	if told(other[0]) != told(counted(256, 6, 1)) || told(other[1]) != told(counted(512, 6, 2)) {
		t.Fatal("Pages shares memory with the Space")
	}
}

// P13.4: a Copy has the same pages; each of the calls changes it alone, or what it is a copy of alone.
func TestCopy(t *testing.T) {
	l := []Page{dirty(counted(0, 6, 1)), from(256, 6, "f", 9), counted(512, 7, 3)}
	for what, change := range map[string]func(s *Space) api.Errno{
		"Map":     func(s *Space) api.Errno { return s.Map(1024, 256, 6, "", 0) },
		"Unmap":   func(s *Space) api.Errno { return s.Unmap(256, 256) },
		"Protect": func(s *Space) api.Errno { return s.Protect(256, 512, 1) },
		"Store":   func(s *Space) api.Errno { return s.Store(508, 8, math.MaxUint64) },
		"Poke":    func(s *Space) api.Errno { return s.Poke(200, bytes.Repeat([]byte{255}, 400)) },
	} {
		s := made(t, l...)
		c := s.Copy()
		again := c.Copy()
		has(t, c, l...)
		good(t, what, change(c))
		has(t, s, l...)
		has(t, again, l...)
		changed := c.Pages()
		if len(changed) == len(l) && told(changed[0])+told(changed[1])+told(changed[2]) == told(l[0])+told(l[1])+told(l[2]) {
			t.Fatalf("%s changed nothing", what)
		}
		good(t, what, change(s))
		good(t, "Unmap", s.Unmap(0, 256))
		has(t, c, changed...)
		has(t, again, l...)
		good(t, what, change(again))
		has(t, again, changed...)
	}
	c := New().Copy()
	has(t, c)
	good(t, "Map", c.Map(0, 256, 6, "", 0))
	has(t, c, blank(0, 6))
}

// P13.4: a Copy of memory without room has none either.
func TestCopyOfAllPages(t *testing.T) {
	s := mapped(t, 0, 512*256, 6)
	c := s.Copy()
	has(t, c, run(0, 512)...)
	failsMap(t, c, span{1 << 20, 256}, 6, api.ErrSize)
	good(t, "Unmap", s.Unmap(0, 256))
	failsMap(t, c, span{1 << 20, 256}, 6, api.ErrSize)
	good(t, "Map", s.Map(1<<20, 256, 6, "", 0))
}
