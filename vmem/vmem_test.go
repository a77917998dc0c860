package vmem

import (
	"bytes"
	"fmt"
	"math"
	"reflect"
	"slices"
	"testing"

	"dormouse/api"
)

// top is where the addresses end.
const top = uint64(1) << 32

// span is an address and a size.
type span struct{ addr, size uint64 }

// wrongRanges are spans that are no valid page ranges.
var wrongRanges = []span{
	// Addresses, then sizes, then both that are no multiples of 256.
	{1, 256}, {5, 256}, {128, 256}, {255, 256}, {257, 256}, {511, 256}, {top - 1, 256}, {top - 257, 256},
	{256, 1}, {256, 128}, {256, 255}, {256, 257}, {256, 511}, {256, 513}, {top - 256, 255}, {top - 256, 1},
	{128, 128}, {255, 257}, {257, 255}, {1, 255}, {384, 384}, {top - 1, 1},
	// Of size 0.
	{0, 0}, {1, 0}, {256, 0}, {512, 0}, {top - 256, 0}, {top, 0}, {math.MaxUint64 - 255, 0},
	// Those that end beyond 2^32.
	{top, 256}, {top - 256, 512}, {top - 512, 768}, {0, top + 256}, {256, top}, {top + 256, 256}, {top, top}, {2 * top, 256},
	// Those whose sum is 2^64 or goes over it.
	{math.MaxUint64 - 255, 256}, {1 << 63, 1 << 63}, {256, math.MaxUint64 - 255}, {math.MaxUint64 - 255, 512},
	{math.MaxUint64 - 255, 768}, {512, math.MaxUint64 - 255}, {512, math.MaxUint64 - 511}, {768, math.MaxUint64 - 255},
	{top, math.MaxUint64 - top + 1}, {math.MaxUint64 - 255, math.MaxUint64 - 255},
}

// wrongProts are numbers that are no protections.
var wrongProts = []int{-1, 8, 9, 15, 16, -8, 256, -256, math.MaxInt, math.MinInt, 1 << 32, 1<<32 + 4}

// blank is a page of bytes 0 that comes from no file.
func blank(addr uint64, prot int) Page {
	return Page{Addr: addr, Prot: prot, Bytes: make([]byte, 256)}
}

// from is a page of bytes 0 that comes from a file.
func from(addr uint64, prot int, file string, off uint64) Page {
	p := blank(addr, prot)
	p.File, p.Off = file, off
	return p
}

// counted is a page with the bytes first, first + 1 and so on.
func counted(addr uint64, prot int, first byte) Page {
	p := blank(addr, prot)
	for i := range p.Bytes {
		p.Bytes[i] = first + byte(i)
	}
	return p
}

// dirty is a page with the flag.
func dirty(p Page) Page {
	p.Dirty = true
	return p
}

// written is a page with other bytes from an index on.
func written(p Page, at int, b ...byte) Page {
	p.Bytes = slices.Clone(p.Bytes)
	copy(p.Bytes[at:], b)
	return p
}

// run are as many pages as n says, one behind the other, with protection 6.
func run(addr uint64, n int) []Page {
	var l []Page
	for i := range n {
		l = append(l, blank(addr+uint64(i)*256, 6))
	}
	return l
}

// good fails the test if there is an error.
func good(t *testing.T, what string, e api.Errno) {
	t.Helper()
	if e != api.OK {
		t.Fatalf("%s: %d", what, e)
	}
}

// made is memory of pages.
func made(t *testing.T, l ...Page) *Space {
	t.Helper()
	s, e := Put(l)
	good(t, "Put", e)
	return s
}

// mapped is memory to which one range was mapped.
func mapped(t *testing.T, addr, size uint64, prot int) *Space {
	t.Helper()
	s := New()
	good(t, "Map", s.Map(addr, size, prot, "", 0))
	return s
}

// told is a page in short.
func told(p Page) string {
	return fmt.Sprintf("%d: prot %d, dirty %t, file %q, off %d, bytes %v", p.Addr, p.Prot, p.Dirty, p.File, p.Off, p.Bytes)
}

// has fails the test unless memory has exactly these pages.
func has(t *testing.T, s *Space, want ...Page) {
	t.Helper()
	l := s.Pages()
	if len(l) != len(want) {
		t.Fatalf("there are %d pages; want %d", len(l), len(want))
	}
	for i, p := range l {
		if !reflect.DeepEqual(p, want[i]) {
			t.Fatalf("page %d is %s; want %s", i, told(p), told(want[i]))
		}
	}
}

// fails fails the test unless a call answers an error and changes nothing.
func fails(t *testing.T, what string, s *Space, err api.Errno, call func() api.Errno) {
	t.Helper()
	l := s.Pages()
	if e := call(); e != err {
		t.Fatalf("%s: %d; want %d", what, e, err)
	}
	has(t, s, l...)
}

// failsMap fails the test unless Map answers an error and changes nothing.
func failsMap(t *testing.T, s *Space, r span, prot int, err api.Errno) {
	t.Helper()
	what := fmt.Sprintf("Map of %d, %d, %d", r.addr, r.size, prot)
	fails(t, what, s, err, func() api.Errno { return s.Map(r.addr, r.size, prot, "f", 3) })
	fails(t, what, s, err, func() api.Errno { return s.Map(r.addr, r.size, prot, "", 0) })
}

// failsUnmap fails the test unless Unmap answers an error and changes nothing.
func failsUnmap(t *testing.T, s *Space, r span, err api.Errno) {
	t.Helper()
	what := fmt.Sprintf("Unmap of %d, %d", r.addr, r.size)
	fails(t, what, s, err, func() api.Errno { return s.Unmap(r.addr, r.size) })
}

// failsProtect fails the test unless Protect answers an error and changes nothing.
func failsProtect(t *testing.T, s *Space, r span, prot int, err api.Errno) {
	t.Helper()
	what := fmt.Sprintf("Protect of %d, %d, %d", r.addr, r.size, prot)
	fails(t, what, s, err, func() api.Errno { return s.Protect(r.addr, r.size, prot) })
}

// edges is memory with pages where addresses begin, behind a gap, and where they end.
func edges(t *testing.T) *Space {
	t.Helper()
	return made(t, counted(0, 6, 1), counted(256, 5, 2), counted(512, 7, 3), counted(1024, 0, 4),
		counted(top-512, 6, 5), counted(top-256, 3, 6))
}

// gaps are page ranges, of each of which edges has not all pages.
var gaps = []span{
	{768, 256}, {0, 1024}, {0, 1280}, {512, 512}, {768, 512}, {1024, 512}, {1280, 256}, {top - 768, 768},
	{top - 768, 256}, {top - 768, 512}, {0, top}, {256, top - 256}, {1280, top - 1280},
}

// P13.1: New has no page, and each is another one.
func TestNew(t *testing.T) {
	s, other := New(), New()
	if s == nil {
		t.Fatal("New is nil")
	}
	has(t, s)
	good(t, "Map", s.Map(0, 256, 4, "", 0))
	has(t, s, blank(0, 4))
	has(t, other)
	has(t, New())
}

// P13.1: the pages of the range are added, filled with bytes 0, not Dirty.
func TestMap(t *testing.T) {
	s := New()
	good(t, "Map", s.Map(256, 512, 6, "f", 256))
	has(t, s, from(256, 6, "f", 256), from(512, 6, "f", 512))
	failsMap(t, s, span{512, 256}, 6, api.ErrOver)
	failsMap(t, s, span{5, 256}, 6, api.ErrArg)
	good(t, "Map beside", s.Map(768, 256, 1, "g", 7))
	good(t, "Map ahead", s.Map(0, 256, 0, "", 0))
	has(t, s, blank(0, 0), from(256, 6, "f", 256), from(512, 6, "f", 512), from(768, 1, "g", 7))
}

// P13.1: what stood in a page that was removed is not in the one that is mapped there again, nor is its flag.
func TestMapAgain(t *testing.T) {
	s := New()
	good(t, "Map", s.Map(256, 512, 6, "f", 9))
	good(t, "Store", s.Store(508, 8, math.MaxUint64))
	good(t, "Unmap", s.Unmap(256, 256))
	good(t, "Map again", s.Map(256, 256, 4, "", 0))
	has(t, s, blank(256, 4), dirty(written(from(512, 6, "f", 265), 0, 255, 255, 255, 255)))
}

// P13.1: ranges may begin at 0 and end at 2^32, and have any size that there is room for.
func TestMapRanges(t *testing.T) {
	for _, r := range []span{{0, 256}, {256, 256}, {0, 512}, {top - 256, 256}, {top - 512, 256}, {top - 512, 512}, {1 << 31, 768}} {
		s := New()
		good(t, fmt.Sprint("Map of ", r), s.Map(r.addr, r.size, 6, "", 0))
		has(t, s, run(r.addr, int(r.size/256))...)
	}
	for _, n := range []int{1, 2, 3, 511, 512} {
		for _, addr := range []uint64{0, 256, 1 << 20, top - uint64(n)*256} {
			s := mapped(t, addr, uint64(n)*256, 6)
			has(t, s, run(addr, n)...)
		}
	}
}

// P13.1: ErrArg unless the range is valid.
func TestMapWrongRanges(t *testing.T) {
	for _, s := range []*Space{New(), edges(t), mapped(t, 0, 512*256, 6)} {
		for _, r := range wrongRanges {
			failsMap(t, s, r, 6, api.ErrArg)
		}
	}
}

// P13.1: each protection from 0 to 7 is kept, others are ErrArg.
func TestMapProts(t *testing.T) {
	for prot := range 8 {
		s := mapped(t, 256, 512, prot)
		has(t, s, blank(256, prot), blank(512, prot))
	}
	for _, prot := range wrongProts {
		failsMap(t, New(), span{256, 256}, prot, api.ErrArg)
		failsMap(t, edges(t), span{2048, 256}, prot, api.ErrArg)
	}
}

// P13.1: Off is off plus the distance from addr, modulo 2^64, but 0 without a file.
func TestMapOffs(t *testing.T) {
	for _, off := range []uint64{0, 1, 255, 256, 4096, top - 256, top, 1 << 63, math.MaxUint64 - 768,
		math.MaxUint64 - 767, math.MaxUint64 - 512, math.MaxUint64 - 511, math.MaxUint64 - 256, math.MaxUint64 - 255, math.MaxUint64} {
		for _, addr := range []uint64{0, 256, 5120, top - 1024} {
			s := New()
			good(t, "Map", s.Map(addr, 1024, 5, "lib", off))
			has(t, s, from(addr, 5, "lib", off), from(addr+256, 5, "lib", off+256),
				from(addr+512, 5, "lib", off+512), from(addr+768, 5, "lib", off+768))
			s = New()
			good(t, "Map", s.Map(addr, 1024, 5, "", off))
			has(t, s, blank(addr, 5), blank(addr+256, 5), blank(addr+512, 5), blank(addr+768, 5))
		}
	}
	s := New()
	good(t, "Map", s.Map(0, 768, 5, "f", math.MaxUint64-300))
	has(t, s, from(0, 5, "f", math.MaxUint64-300), from(256, 5, "f", math.MaxUint64-44), from(512, 5, "f", 211))
}

// P13.1: a file's name is any text.
func TestMapFiles(t *testing.T) {
	for _, file := range []string{"f", "a b", "\x00", "\xff", "0", " "} {
		s := New()
		good(t, "Map", s.Map(256, 512, 4, file, 10))
		has(t, s, from(256, 4, file, 10), from(512, 4, file, 266))
	}
}

// P13.1: ErrOver if one of the pages exists, whichever it is, and no page is added then.
func TestMapOver(t *testing.T) {
	for at := range uint64(5) {
		s := mapped(t, 256+at*256, 256, 4)
		failsMap(t, s, span{256, 5 * 256}, 6, api.ErrOver)
	}
	// The pages beside the range are none of it.
	s := made(t, blank(0, 4), blank(1536, 4))
	good(t, "Map between", s.Map(256, 5*256, 4, "", 0))
	has(t, s, slices.Concat([]Page{blank(0, 4)}, protected(run(256, 5), 4), []Page{blank(1536, 4)})...)
	for _, r := range []span{{0, 256}, {0, 512}, {256, 256}, {1536, 256}, {1536, 512}, {0, 2048}, {1280, 512}} {
		failsMap(t, s, r, 6, api.ErrOver)
	}
	for _, prot := range []int{0, 7} {
		failsMap(t, mapped(t, top-256, 256, prot), span{top - 256, 256}, prot, api.ErrOver)
		failsMap(t, mapped(t, top-256, 256, prot), span{top - 768, 768}, prot, api.ErrOver)
		failsMap(t, mapped(t, 0, 256, prot), span{0, 256}, prot, api.ErrOver)
	}
}

// protected are pages with a protection.
func protected(l []Page, prot int) []Page {
	l = slices.Clone(l)
	for i := range l {
		l[i].Prot = prot
	}
	return l
}

// P13.1: ErrSize if there would be more than 512 pages.
func TestMapSize(t *testing.T) {
	failsMap(t, New(), span{0, 513 * 256}, 6, api.ErrSize)
	failsMap(t, New(), span{0, 1024 * 256}, 6, api.ErrSize)
	failsMap(t, New(), span{256, top - 256}, 6, api.ErrSize)
	failsMap(t, New(), span{0, top}, 6, api.ErrSize)
	failsMap(t, New(), span{1 << 31, 1 << 31}, 6, api.ErrSize)
	for _, n := range []int{1, 2, 256, 510, 511, 512} {
		s := mapped(t, 0, uint64(n)*256, 6)
		left := uint64(512 - n)
		failsMap(t, s, span{1 << 20, (left + 1) * 256}, 6, api.ErrSize)
		failsMap(t, s, span{uint64(n) * 256, (left + 1) * 256}, 6, api.ErrSize)
		failsMap(t, s, span{1 << 20, top - 1<<20}, 6, api.ErrSize)
		if left > 0 {
			good(t, "Map of what is left", s.Map(uint64(n)*256, left*256, 6, "", 0))
		}
		has(t, s, run(0, 512)...)
		failsMap(t, s, span{1 << 20, 256}, 6, api.ErrSize)
	}
}

// P13.1: pages that are removed leave room for others.
func TestMapSizeAgain(t *testing.T) {
	s := mapped(t, 0, 512*256, 6)
	good(t, "Unmap", s.Unmap(256, 256))
	failsMap(t, s, span{1 << 20, 512}, 6, api.ErrSize)
	good(t, "Map", s.Map(1<<20, 256, 6, "", 0))
	has(t, s, slices.Concat(run(0, 1), run(512, 510), run(1<<20, 1))...)
	failsMap(t, s, span{256, 256}, 6, api.ErrSize)
}

// P13.1: a Map with an error takes no room.
func TestMapErrorsTakeNoRoom(t *testing.T) {
	s := mapped(t, 0, 511*256, 6)
	for range 10 {
		failsMap(t, s, span{510 * 256, 512}, 6, api.ErrOver)
		failsMap(t, s, span{1 << 20, 512}, 6, api.ErrSize)
		failsMap(t, s, span{1 << 20, 256}, 8, api.ErrArg)
	}
	good(t, "Map", s.Map(511*256, 256, 6, "", 0))
	has(t, s, run(0, 512)...)
}

// P13.1: where several errors hold, ErrArg is ahead of ErrOver, and that ahead of ErrSize.
func TestMapOrder(t *testing.T) {
	s := mapped(t, 0, 512*256, 6)
	failsMap(t, s, span{0, 256}, 8, api.ErrArg)
	failsMap(t, s, span{0, 256}, -1, api.ErrArg)
	failsMap(t, s, span{0, 255}, 6, api.ErrArg)
	failsMap(t, s, span{1, 256}, 6, api.ErrArg)
	failsMap(t, s, span{0, top + 256}, 6, api.ErrArg)
	failsMap(t, s, span{1 << 20, 257}, 6, api.ErrArg)
	failsMap(t, s, span{1 << 20, 256}, 9, api.ErrArg)
	failsMap(t, s, span{0, 256}, 6, api.ErrOver)
	failsMap(t, s, span{511 * 256, 512}, 6, api.ErrOver)
	failsMap(t, s, span{0, top}, 6, api.ErrOver)
	s = mapped(t, top-256, 256, 6)
	failsMap(t, s, span{0, top}, 6, api.ErrOver)
	failsMap(t, s, span{0, top - 256}, 6, api.ErrSize)
	failsMap(t, s, span{0, top - 256}, 8, api.ErrArg)
}

// P13.2: Unmap removes the pages of the range, and no other.
func TestUnmap(t *testing.T) {
	for n := range 5 {
		for first := range 5 - n {
			s := mapped(t, 256, 5*256, 6)
			good(t, "Unmap", s.Unmap(256+uint64(first)*256, uint64(n+1)*256))
			l := run(256, 5)
			has(t, s, slices.Concat(l[:first], l[first+n+1:])...)
		}
	}
	for _, r := range []span{{0, 256}, {0, 768}, {256, 512}, {512, 256}, {1024, 256}, {top - 512, 256}, {top - 512, 512}, {top - 256, 256}} {
		s := edges(t)
		l := slices.DeleteFunc(s.Pages(), func(p Page) bool { return p.Addr >= r.addr && p.Addr < r.addr+r.size })
		good(t, fmt.Sprint("Unmap of ", r), s.Unmap(r.addr, r.size))
		has(t, s, l...)
		failsUnmap(t, s, r, api.ErrMap)
	}
}

// P13.2: Unmap of pages of several ranges, whatever they are, up to all that there may be.
func TestUnmapAll(t *testing.T) {
	s := New()
	for i := range uint64(512) {
		good(t, "Map", s.Map(i*256, 256, int(i%8), "f", i))
	}
	good(t, "Unmap", s.Unmap(0, 512*256))
	has(t, s)
	good(t, "Map", s.Map(0, 512*256, 6, "", 0))
	has(t, s, run(0, 512)...)
}

// P13.2: Unmap is ErrArg unless the range is valid.
func TestUnmapWrongRanges(t *testing.T) {
	for _, s := range []*Space{New(), edges(t), mapped(t, 0, 512*256, 6), mapped(t, top-512*256, 512*256, 6)} {
		for _, r := range wrongRanges {
			failsUnmap(t, s, r, api.ErrArg)
		}
	}
}

// P13.2: Unmap is ErrMap if one of the pages does not exist, whichever it is, and no page is removed then.
func TestUnmapGaps(t *testing.T) {
	for at := range 5 {
		l := run(256, 5)
		s := made(t, slices.Delete(l, at, at+1)...)
		failsUnmap(t, s, span{256, 5 * 256}, api.ErrMap)
	}
	for _, r := range gaps {
		failsUnmap(t, edges(t), r, api.ErrMap)
	}
	failsUnmap(t, New(), span{0, 256}, api.ErrMap)
	failsUnmap(t, New(), span{0, top}, api.ErrMap)
	failsUnmap(t, mapped(t, 0, 512*256, 6), span{0, 513 * 256}, api.ErrMap)
	failsUnmap(t, mapped(t, 0, 512*256, 6), span{0, top}, api.ErrMap)
}

// P13.2: Protect sets the protections of the pages of the range, and nothing else.
func TestProtect(t *testing.T) {
	for prot := range 8 {
		s := New()
		good(t, "Map", s.Map(256, 4*256, 6, "f", 100))
		good(t, "Store", s.Store(766, 4, 0x04030201))
		good(t, "Protect", s.Protect(512, 512, prot))
		has(t, s, from(256, 6, "f", 100), dirty(written(from(512, prot, "f", 356), 254, 1, 2)),
			dirty(written(from(768, prot, "f", 612), 0, 3, 4)), from(1024, 6, "f", 868))
	}
}

// P13.2: Protect of ranges of any size, up to all pages that there may be, whose protections differ.
func TestProtectRanges(t *testing.T) {
	for _, r := range []span{{0, 256}, {0, 768}, {256, 512}, {512, 256}, {1024, 256}, {top - 512, 256}, {top - 512, 512}, {top - 256, 256}} {
		for prot := range 8 {
			s := edges(t)
			l := s.Pages()
			for i, p := range l {
				if p.Addr >= r.addr && p.Addr < r.addr+r.size {
					l[i].Prot = prot
				}
			}
			good(t, fmt.Sprint("Protect of ", r), s.Protect(r.addr, r.size, prot))
			has(t, s, l...)
		}
	}
	s := mapped(t, 0, 512*256, 6)
	good(t, "Protect", s.Protect(0, 512*256, 1))
	has(t, s, protected(run(0, 512), 1)...)
}

// P13.2: Protect is ErrArg unless the range is valid and the protection is one.
func TestProtectWrong(t *testing.T) {
	for _, s := range []*Space{New(), edges(t), mapped(t, 0, 512*256, 6), mapped(t, top-512*256, 512*256, 6)} {
		for _, r := range wrongRanges {
			failsProtect(t, s, r, 4, api.ErrArg)
			failsProtect(t, s, r, 8, api.ErrArg)
		}
		for _, prot := range wrongProts {
			failsProtect(t, s, span{0, 512}, prot, api.ErrArg)
			failsProtect(t, s, span{top - 256, 256}, prot, api.ErrArg)
			// Ahead of the pages that do not exist.
			failsProtect(t, s, span{1 << 30, 256}, prot, api.ErrArg)
		}
	}
}

// P13.2: Protect is ErrMap if one of the pages does not exist, whichever it is, and no protection changes then.
func TestProtectGaps(t *testing.T) {
	for at := range 5 {
		for prot := range 8 {
			l := run(256, 5)
			s := made(t, slices.Delete(l, at, at+1)...)
			failsProtect(t, s, span{256, 5 * 256}, prot, api.ErrMap)
		}
	}
	for _, r := range gaps {
		failsProtect(t, edges(t), r, 2, api.ErrMap)
	}
	failsProtect(t, New(), span{0, 256}, 4, api.ErrMap)
	failsProtect(t, New(), span{0, top}, 4, api.ErrMap)
	failsProtect(t, mapped(t, 0, 512*256, 6), span{0, 513 * 256}, 4, api.ErrMap)
	failsProtect(t, mapped(t, 0, 512*256, 6), span{0, top}, 4, api.ErrMap)
}

// P13.6: on a nil Space every call with an error result is ErrArg, and all other results are zero values.
func TestNil(t *testing.T) {
	var s *Space
	for _, r := range append(slices.Clone(wrongRanges), span{0, 256}, span{256, 512}, span{top - 256, 256}, span{0, top}) {
		for prot := -1; prot <= 8; prot++ {
			for what, e := range map[string]api.Errno{
				"Map":         s.Map(r.addr, r.size, prot, "f", 3),
				"Map of none": s.Map(r.addr, r.size, prot, "", 0),
				"Unmap":       s.Unmap(r.addr, r.size),
				"Protect":     s.Protect(r.addr, r.size, prot),
			} {
				if e != api.ErrArg {
					t.Fatalf("%s of %v, %d on nil: %d", what, r, prot, e)
				}
			}
		}
		if b, e := s.Peek(r.addr, r.size); len(b) != 0 || e != api.ErrArg {
			t.Fatalf("Peek of %v on nil: %v, %d", r, b, e)
		}
		for n := -1; n <= 9; n++ {
			if x, e := s.Load(r.addr, n); x != 0 || e != api.ErrArg {
				t.Fatalf("Load of %d, %d on nil: %d, %d", r.addr, n, x, e)
			}
			if e := s.Store(r.addr, n, 1); e != api.ErrArg {
				t.Fatalf("Store of %d, %d on nil: %d", r.addr, n, e)
			}
			if e := s.Poke(r.addr, make([]byte, n+1)); e != api.ErrArg {
				t.Fatalf("Poke of %d, %d bytes on nil: %d", r.addr, n+1, e)
			}
		}
		if x, e := s.Fetch(r.addr); x != 0 || e != api.ErrArg {
			t.Fatalf("Fetch of %d on nil: %d, %d", r.addr, x, e)
		}
		if e := s.Poke(r.addr, nil); e != api.ErrArg {
			t.Fatalf("Poke of %d on nil: %d", r.addr, e)
		}
	}
	if l := s.Pages(); len(l) != 0 {
		t.Fatalf("Pages on nil: %v", l)
	}
	if c := s.Copy(); c != nil {
		t.Fatal("Copy on nil is not nil")
	}
}

// P13.1: a Space that New did not make has no page either, and takes some.
func TestSpaceOfZeroValues(t *testing.T) {
	s := &Space{}
	has(t, s)
	has(t, s.Copy())
	failsUnmap(t, s, span{0, 256}, api.ErrMap)
	failsProtect(t, s, span{0, 256}, 4, api.ErrMap)
	fails(t, "Store", s, api.ErrMap, func() api.Errno { return s.Store(0, 1, 1) })
	fails(t, "Poke", s, api.ErrMap, func() api.Errno { return s.Poke(0, []byte{1}) })
	good(t, "Map", s.Map(256, 256, 4, "f", 1))
	has(t, s, from(256, 4, "f", 1))
}

// P13.1 to P13.4: the example of the chapter.
func TestExample(t *testing.T) {
	s := New()
	good(t, "Map", s.Map(256, 512, 6, "", 0))
	good(t, "Store", s.Store(300, 8, 7))
	if x, e := s.Load(300, 8); x != 7 || e != api.OK {
		t.Fatalf("Load: %d, %d", x, e)
	}
	has(t, s, dirty(written(blank(256, 6), 44, 7)), blank(512, 6))
	b, e := s.Peek(300, 2)
	if !bytes.Equal(b, []byte{7, 0}) || e != api.OK {
		t.Fatalf("Peek: %v, %d", b, e)
	}
}
