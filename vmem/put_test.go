package vmem

import (
	"bytes"
	"fmt"
	"math"
	"slices"
	"testing"

	"dormouse/api"
)

// failsPut fails the test unless Put answers an error, no Space beside it, and changes no page.
func failsPut(t *testing.T, what string, err api.Errno, l ...Page) {
	t.Helper()
	before := cloned(l)
	s, e := Put(l)
	if s != nil || e != err {
		t.Fatalf("Put of %s: %v, %d; want %d", what, s, e, err)
	}
	for i, p := range l {
		if told(p) != told(before[i]) {
			t.Fatalf("Put of %s changed page %d", what, i)
		}
	}
}

// cloned are the same pages in new memory.
func cloned(l []Page) []Page {
	l = slices.Clone(l)
	for i, p := range l {
		l[i].Bytes = bytes.Clone(p.Bytes)
	}
	return l
}

// P13.5: memory has exactly the pages that were put.
func TestPut(t *testing.T) {
	for _, l := range [][]Page{
		nil,
		{},
		{blank(0, 0)},
		{blank(256, 7)},
		{blank(top-256, 6)},
		{blank(0, 6), blank(top-256, 6)},
		{dirty(counted(256, 5, 9)), from(512, 2, "f", 0), dirty(from(768, 3, "g", 5)), counted(1<<31, 1, 200)},
		{from(256, 6, "f", math.MaxUint64), from(512, 6, "f", 1), from(768, 6, "\x00", 256)},
	} {
		given := cloned(l)
		s, e := Put(l)
		good(t, "Put", e)
		has(t, s, given...)
		for i, p := range l {
			if told(p) != told(given[i]) {
				t.Fatalf("Put changed page %d", i)
			}
		}
	}
}

// P13.5: the example: Put of what Pages returned.
func TestPutExample(t *testing.T) {
	s := New()
	good(t, "Map", s.Map(256, 512, 6, "f", 256))
	c, e := Put(s.Pages())
	good(t, "Put", e)
	has(t, c, from(256, 6, "f", 256), from(512, 6, "f", 512))
}

// P13.5: what was put acts as memory: it is read, written, and has no room for more than 512 pages.
func TestPutActs(t *testing.T) {
	s := made(t, counted(256, 5, 1), dirty(counted(512, 6, 1)))
	loads(t, s, 508, 8, 0x04030201_00fffefd)
	failsStore(t, s, 508, 8, api.ErrProt)
	if x, e := s.Fetch(256); x != 0x0807060504030201 || e != api.OK {
		t.Fatalf("Fetch: %x, %d", x, e)
	}
	good(t, "Store", s.Store(512, 1, 99))
	has(t, s, counted(256, 5, 1), dirty(written(counted(512, 6, 1), 0, 99)))
	failsMap(t, s, span{256, 256}, 4, api.ErrOver)
	failsMap(t, s, span{1024, 511 * 256}, 4, api.ErrSize)
	good(t, "Map", s.Map(1024, 510*256, 4, "", 0))
	good(t, "Unmap", s.Unmap(256, 512))
	has(t, s, protected(run(1024, 510), 4)...)
}

// P13.5: ErrForm unless each Addr is a multiple of 256, below 2^32.
func TestPutAddrs(t *testing.T) {
	for _, addr := range []uint64{1, 2, 8, 16, 32, 64, 128, 255, 257, 384, 511, 513, top - 1, top - 128, top - 255, top - 257,
		top, top + 256, top + 1, 2 * top, 1 << 63, math.MaxUint64, math.MaxUint64 - 255, math.MaxUint64 - 511} {
		failsPut(t, fmt.Sprint(addr), api.ErrForm, blank(addr, 6))
		failsPut(t, fmt.Sprint("0, ", addr), api.ErrForm, blank(0, 6), blank(addr, 6))
		failsPut(t, fmt.Sprint(addr, " first"), api.ErrForm, blank(addr, 6), blank(top-256, 6))
	}
}

// P13.5: ErrForm unless each Addr is greater than that of the page ahead of it.
func TestPutOrder(t *testing.T) {
	addrs := []uint64{0, 256, 512, top - 512, top - 256}
	for _, a := range addrs {
		for _, b := range addrs {
			for _, c := range addrs {
				l := []Page{counted(a, 6, 1), counted(b, 6, 2), counted(c, 6, 3)}
				if a >= b || b >= c {
					failsPut(t, fmt.Sprint(a, b, c), api.ErrForm, l...)
					continue
				}
				has(t, made(t, l...), l...)
			}
			if a >= b {
				failsPut(t, fmt.Sprint(a, b), api.ErrForm, blank(a, 6), blank(b, 6))
			}
		}
		failsPut(t, fmt.Sprint(a, " twice"), api.ErrForm, blank(a, 6), blank(a, 6))
		failsPut(t, fmt.Sprint(a, " twice, of other bytes"), api.ErrForm, counted(a, 6, 1), counted(a, 5, 2))
	}
}

// P13.5: ErrForm unless each Prot is 0 to 7, each page has 256 bytes, and Off is 0 without a file.
func TestPutForms(t *testing.T) {
	var wrong []Page
	for _, prot := range wrongProts {
		wrong = append(wrong, blank(512, prot))
	}
	for _, n := range []int{0, 1, 128, 255, 257, 384, 511, 512, 65536} {
		p := blank(512, 6)
		p.Bytes = make([]byte, n)
		wrong = append(wrong, p, from(512, 6, "f", 3))
		wrong[len(wrong)-1].Bytes = make([]byte, n)
	}
	wrong = append(wrong, Page{Addr: 512, Prot: 6}, Page{Addr: 512})
	for _, off := range []uint64{1, 255, 256, 512, top, 1 << 63, math.MaxUint64} {
		wrong = append(wrong, from(512, 6, "", off), dirty(from(512, 0, "", off)))
	}
	for i, p := range wrong {
		failsPut(t, fmt.Sprint("wrong page ", i), api.ErrForm, p)
		failsPut(t, fmt.Sprint("wrong page ", i, " last"), api.ErrForm, blank(0, 6), blank(256, 6), p)
		failsPut(t, fmt.Sprint("wrong page ", i, " between"), api.ErrForm, blank(256, 6), p, blank(768, 6))
		failsPut(t, fmt.Sprint("wrong page ", i, " first"), api.ErrForm, p, blank(768, 6), blank(1024, 6))
	}
	for prot := range 8 {
		has(t, made(t, blank(256, prot)), blank(256, prot))
	}
	for _, off := range []uint64{0, 1, 256, top, math.MaxUint64} {
		has(t, made(t, from(256, 6, "f", off)), from(256, 6, "f", off))
	}
}

// P13.5: more than 512 pages are ErrSize, but ErrForm if one of them is wrong.
func TestPutSize(t *testing.T) {
	for _, n := range []int{511, 512} {
		for _, addr := range []uint64{0, 256, top - uint64(n)*256} {
			has(t, made(t, run(addr, n)...), run(addr, n)...)
		}
	}
	for _, n := range []int{513, 514, 1024, 1500} {
		failsPut(t, fmt.Sprint(n, " pages"), api.ErrSize, run(0, n)...)
		failsPut(t, fmt.Sprint(n, " pages"), api.ErrSize, run(top-uint64(n)*256, n)...)
		for _, at := range []int{0, 1, 255, 511, 512, n - 1} {
			for what, spoil := range map[string]func(p *Page){
				"Addr":  func(p *Page) { p.Addr++ },
				"order": func(p *Page) { p.Addr = uint64(1-at%2) << 31 },
				"Prot":  func(p *Page) { p.Prot = 8 },
				"Bytes": func(p *Page) { p.Bytes = p.Bytes[:255] },
				"Off":   func(p *Page) { p.Off = 1 },
			} {
				l := run(256, n)
				spoil(&l[at])
				// The last page and the first may move so far.
				if what == "order" && (at == 0 || at == n-1) {
					continue
				}
				failsPut(t, fmt.Sprint(n, " pages, wrong ", what, " of ", at), api.ErrForm, l...)
			}
		}
	}
}

// P13.5: what was handed in to Put is not kept: changed afterwards, it changes nothing.
func TestPutKeepsNothing(t *testing.T) {
	l := []Page{counted(256, 6, 1), from(512, 4, "f", 7)}
	s, e := Put(l)
	good(t, "Put", e)
	for i := range l {
		clear(l[i].Bytes)
		l[i].Bytes[0] = 77
		l[i] = Page{Addr: 1}
	}
	has(t, s, counted(256, 6, 1), from(512, 4, "f", 7))
	l = []Page{counted(256, 6, 1)}
	b := l[0].Bytes
	s, e = Put(l)
	good(t, "Put", e)
	good(t, "Store", s.Store(256, 8, 0))
	good(t, "Poke", s.Poke(300, []byte{0, 0, 0}))
	if !bytes.Equal(b, counted(256, 6, 1).Bytes) || told(l[0]) != told(counted(256, 6, 1)) {
		t.Fatal("Store changed what was handed in to Put")
	}
}

// P13.5: pages that share their bytes are put as pages of their own.
func TestPutSharedBytes(t *testing.T) {
	b := counted(0, 0, 1).Bytes
	one, two := blank(256, 6), blank(512, 6)
	one.Bytes, two.Bytes = b, b
	s := made(t, one, two)
	good(t, "Poke", s.Poke(256, []byte{9, 9}))
	has(t, s, written(counted(256, 6, 1), 0, 9, 9), counted(512, 6, 1))
	// Of the bytes behind the 256 nothing is kept.
	long := make([]byte, 256, 1024)
	one.Bytes = long
	s = made(t, one)
	good(t, "Poke", s.Poke(256, bytes.Repeat([]byte{1}, 256)))
	if slices.Contains(long[:1024], 1) {
		t.Fatal("Put keeps the slice")
	}
}
