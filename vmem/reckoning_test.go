package vmem

import (
	"bytes"
	"fmt"
	"maps"
	"math"
	"math/big"
	"math/rand"
	"reflect"
	"slices"
	"testing"

	"dormouse/api"
)

// plain is memory by the chapter's words: its pages by their addresses, looked at byte by byte.
type plain map[uint64]Page

// ends tells whether the exact sum of an address and a size is at most 2^32.
func ends(r span) bool {
	sum := new(big.Int).Add(new(big.Int).SetUint64(r.addr), new(big.Int).SetUint64(r.size))
	return sum.Cmp(big.NewInt(1<<32)) <= 0
}

// rangeErr is the error of a range that is not valid, or of a protection.
func rangeErr(r span, prot int) api.Errno {
	if r.addr%256 != 0 || r.size%256 != 0 || r.size == 0 || !ends(r) || prot < 0 || prot > 7 {
		return api.ErrArg
	}
	return api.OK
}

// within are the addresses of the pages that exist in a valid range.
func (m plain) within(r span) []uint64 {
	var l []uint64
	for addr := range m {
		if addr >= r.addr && addr < r.addr+r.size {
			l = append(l, addr)
		}
	}
	return l
}

// rangeAll are the addresses of all pages of a range, all of which must exist.
func (m plain) rangeAll(r span, prot int) ([]uint64, api.Errno) {
	if e := rangeErr(r, prot); e != api.OK {
		return nil, e
	}
	l := m.within(r)
	if uint64(len(l)) != r.size/256 {
		return nil, api.ErrMap
	}
	return l, api.OK
}

func (m plain) mapPages(r span, prot int, file string, off uint64) api.Errno {
	if e := rangeErr(r, prot); e != api.OK {
		return e
	}
	if len(m.within(r)) > 0 {
		return api.ErrOver
	}
	if uint64(len(m))+r.size/256 > 512 {
		return api.ErrSize
	}
	for i := range r.size / 256 {
		p := blank(r.addr+i*256, prot)
		if file != "" {
			p.File, p.Off = file, off+i*256
		}
		m[p.Addr] = p
	}
	return api.OK
}

func (m plain) unmap(r span) api.Errno {
	l, e := m.rangeAll(r, 0)
	for _, addr := range l {
		delete(m, addr)
	}
	return e
}

func (m plain) protect(r span, prot int) api.Errno {
	l, e := m.rangeAll(r, prot)
	for _, addr := range l {
		p := m[addr]
		p.Prot = prot
		m[addr] = p
	}
	return e
}

// spanErr is the error of a span of which a page does not exist, or lacks a right; right 0 asks for none.
func (m plain) spanErr(r span, right int) api.Errno {
	if r.size == 0 {
		return api.OK
	}
	if !ends(r) {
		return api.ErrMap
	}
	// From the last byte on, and each byte on its own.
	e := api.OK
	for i := r.size; i > 0; i-- {
		a := r.addr + i - 1
		p, exists := m[a/256*256]
		if !exists {
			return api.ErrMap
		}
		if right > 0 && p.Prot/right%2 == 0 {
			e = api.ErrProt
		}
	}
	return e
}

// bytes are those of a span all of whose pages exist.
func (m plain) bytes(r span) []byte {
	var b []byte
	for i := range r.size {
		a := r.addr + i
		b = append(b, m[a/256*256].Bytes[a%256])
	}
	return b
}

// set stores bytes.
func (m plain) set(addr uint64, b []byte, dirty bool) {
	for i, x := range b {
		a := addr + uint64(i)
		p := m[a/256*256]
		p.Bytes[a%256] = x
		p.Dirty = p.Dirty || dirty
		m[a/256*256] = p
	}
}

// accessErr is the error of Load or Store.
func (m plain) accessErr(addr uint64, n, right int) api.Errno {
	if n != 1 && n != 2 && n != 4 && n != 8 {
		return api.ErrArg
	}
	return m.spanErr(span{addr, uint64(n)}, right)
}

// list are all pages by rising addresses.
func (m plain) list() []Page {
	var l []Page
	for _, addr := range slices.Sorted(maps.Keys(m)) {
		p := m[addr]
		p.Bytes = bytes.Clone(p.Bytes)
		l = append(l, p)
	}
	return l
}

// copy is the same memory.
func (m plain) copy() plain {
	other := plain{}
	for _, p := range m.list() {
		other[p.Addr] = p
	}
	return other
}

// pair is memory, and what it is by the chapter's words.
type pair struct {
	s *Space
	m plain
}

// check fails the test unless a call answered the error that it should, and both have the same pages.
func (p pair) check(t *testing.T, what string, e, want api.Errno) {
	t.Helper()
	if e != want {
		t.Fatalf("%s: %d; want %d", what, e, want)
	}
	has(t, p.s, p.m.list()...)
}

// ranges makes the three calls that take a page range.
func (p pair) ranges(t *testing.T, r span, prot int, file string, off uint64) {
	t.Helper()
	c := pair{p.s.Copy(), p.m.copy()}
	what := fmt.Sprintf("Map of %d, %d, %d, %q, %d", r.addr, r.size, prot, file, off)
	c.check(t, what, c.s.Map(r.addr, r.size, prot, file, off), c.m.mapPages(r, prot, file, off))
	c = pair{p.s.Copy(), p.m.copy()}
	c.check(t, fmt.Sprint("Unmap of ", r), c.s.Unmap(r.addr, r.size), c.m.unmap(r))
	c = pair{p.s.Copy(), p.m.copy()}
	c.check(t, fmt.Sprint("Protect of ", r, prot), c.s.Protect(r.addr, r.size, prot), c.m.protect(r, prot))
}

// load makes Load.
func (p pair) load(t *testing.T, addr uint64, n int) {
	t.Helper()
	want, err := uint64(0), p.m.accessErr(addr, n, 4)
	if err == api.OK {
		want = number(p.m.bytes(span{addr, uint64(n)}))
	}
	if x, e := p.s.Load(addr, n); x != want || e != err {
		t.Fatalf("Load of %d, %d: %d, %d; want %d, %d", addr, n, x, e, want, err)
	}
}

// store makes Store.
func (p pair) store(t *testing.T, addr uint64, n int, x uint64) {
	t.Helper()
	err := p.m.accessErr(addr, n, 2)
	if err == api.OK {
		p.m.set(addr, little(n, x), true)
	}
	p.check(t, fmt.Sprintf("Store of %d, %d, %d", addr, n, x), p.s.Store(addr, n, x), err)
}

// fetch makes Fetch.
func (p pair) fetch(t *testing.T, addr uint64) {
	t.Helper()
	want, err := uint64(0), api.ErrArg
	if addr%8 == 0 {
		err = p.m.spanErr(span{addr, 8}, 1)
	}
	if err == api.OK {
		want = number(p.m.bytes(span{addr, 8}))
	}
	if x, e := p.s.Fetch(addr); x != want || e != err {
		t.Fatalf("Fetch of %d: %d, %d; want %d, %d", addr, x, e, want, err)
	}
}

// peek makes Peek.
func (p pair) peek(t *testing.T, r span) {
	t.Helper()
	var want []byte
	err := p.m.spanErr(r, 0)
	if err == api.OK {
		want = p.m.bytes(r)
	}
	if b, e := p.s.Peek(r.addr, r.size); !bytes.Equal(b, want) || e != err {
		t.Fatalf("Peek of %v: %v, %d; want %v, %d", r, b, e, want, err)
	}
}

// poke makes Poke.
func (p pair) poke(t *testing.T, addr uint64, b []byte) {
	t.Helper()
	err := p.m.spanErr(span{addr, uint64(len(b))}, 0)
	if err == api.OK {
		p.m.set(addr, b, false)
	}
	p.check(t, fmt.Sprintf("Poke of %d, %v", addr, b), p.s.Poke(addr, b), err)
}

// put takes another Space, that of all pages.
func (p *pair) put(t *testing.T) {
	t.Helper()
	s, e := Put(p.s.Pages())
	good(t, "Put", e)
	p.s = s
	p.check(t, "Put", api.OK, api.OK)
}

// both is memory of pages, and what it is by the chapter's words.
func both(t *testing.T, l ...Page) pair {
	t.Helper()
	m := plain{}
	for _, p := range cloned(l) {
		m[p.Addr] = p
	}
	return pair{made(t, l...), m}
}

// numbers are those near which something changes.
var numbers = []uint64{0, 1, 7, 8, 128, 255, 256, 257, 504, 511, 512, 513, 768, 1024, 1280, 512 * 256, 513 * 256, 1 << 31,
	top - 513, top - 512, top - 511, top - 257, top - 256, top - 255, top - 8, top - 1, top, top + 1, top + 256,
	1 << 63, math.MaxUint64 - 511, math.MaxUint64 - 255, math.MaxUint64 - 254, math.MaxUint64 - 7, math.MaxUint64}

// places are kinds of memory: without a page, with gaps, and full.
func places(t *testing.T) []pair {
	t.Helper()
	return []pair{
		both(t),
		both(t, counted(0, 6, 1), dirty(counted(256, 5, 2)), from(512, 7, "f", 3), counted(1024, 0, 4), counted(top-512, 6, 5), counted(top-256, 3, 6)),
		both(t, run(256, 511)...),
		both(t, slices.Concat(run(0, 511), run(top-256, 1))...),
	}
}

// P13.1 and P13.2: ranges near all numbers at which something changes are held against the chapter's words.
func TestRangesReckoned(t *testing.T) {
	for _, p := range places(t)[:2] {
		for _, addr := range numbers {
			for _, size := range numbers {
				for _, prot := range []int{-1, 0, 3, 7, 8} {
					p.ranges(t, span{addr, size}, prot, "f", math.MaxUint64-256)
				}
				p.ranges(t, span{addr, size}, 6, "", 5)
			}
		}
	}
	for _, p := range places(t)[2:] {
		for _, addr := range []uint64{0, 1, 256, 512, 512 * 256, 513 * 256, 1 << 31, top - 512, top - 256, top, math.MaxUint64 - 255} {
			for _, size := range []uint64{0, 1, 256, 512, 511 * 256, 512 * 256, 513 * 256, top - 256, top, math.MaxUint64 - 255} {
				p.ranges(t, span{addr, size}, 6, "f", 1)
			}
		}
	}
}

// P13.3 and P13.4: spans near all numbers at which something changes are held against the chapter's words.
func TestSpansReckoned(t *testing.T) {
	for _, p := range places(t) {
		for _, addr := range numbers {
			p.fetch(t, addr)
			for n := -1; n <= 17; n++ {
				p.load(t, addr, n)
			}
			for _, size := range numbers {
				p.peek(t, span{addr, size})
			}
		}
	}
	for k := range 2 {
		for _, addr := range numbers {
			for n := -1; n <= 9; n++ {
				places(t)[k].store(t, addr, n, 0x8877665544332211)
			}
			for _, size := range []int{0, 1, 8, 255, 256, 257, 512, 513, 768, 769, 1024} {
				places(t)[k].poke(t, addr, bytes.Repeat([]byte{99}, size))
			}
		}
	}
}

// stirrer makes calls of any kind.
type stirrer struct {
	rng *rand.Rand
	pair
}

// addr is an address near some pages, at the ends of memory, or anywhere.
func (r *stirrer) addr() uint64 {
	k := uint64(r.rng.Intn(6 * 256))
	switch r.rng.Intn(12) {
	case 0:
		return top - 768 + k
	case 1:
		return 0 - k
	case 2:
		return r.rng.Uint64() >> r.rng.Intn(64)
	}
	return k
}

// pages is a page range, sometimes not a valid one.
func (r *stirrer) pages() span {
	s := span{r.addr(), uint64(r.rng.Intn(5)) * 256}
	if r.rng.Intn(16) > 0 {
		s.addr = s.addr / 256 * 256
	}
	if r.rng.Intn(40) == 0 {
		s.size = r.rng.Uint64() >> r.rng.Intn(64)
	}
	return s
}

// prot is a protection, sometimes not one.
func (r *stirrer) prot() int {
	if r.rng.Intn(20) == 0 {
		return r.rng.Intn(20) - 5
	}
	return r.rng.Intn(8) | r.rng.Intn(8)
}

// width is how many bytes are loaded or stored, sometimes a wrong number.
func (r *stirrer) width() int {
	if r.rng.Intn(20) == 0 {
		return r.rng.Intn(20) - 5
	}
	return widths[r.rng.Intn(4)]
}

// step makes a call of any kind.
func (r *stirrer) step(t *testing.T) {
	t.Helper()
	g := r.pages()
	switch r.rng.Intn(12) {
	case 0, 1:
		file, off, prot := []string{"", "f", "g"}[r.rng.Intn(3)], r.rng.Uint64()>>r.rng.Intn(64), r.prot()
		r.check(t, fmt.Sprint("Map of ", g), r.s.Map(g.addr, g.size, prot, file, off), r.m.mapPages(g, prot, file, off))
	case 2:
		r.check(t, fmt.Sprint("Unmap of ", g), r.s.Unmap(g.addr, g.size), r.m.unmap(g))
	case 3:
		prot := r.prot()
		r.check(t, fmt.Sprint("Protect of ", g, prot), r.s.Protect(g.addr, g.size, prot), r.m.protect(g, prot))
	case 4:
		b := make([]byte, r.rng.Intn(700))
		r.rng.Read(b)
		r.poke(t, r.addr(), b)
	case 5, 6, 7:
		r.store(t, r.addr(), r.width(), r.rng.Uint64()>>r.rng.Intn(64))
	case 8, 9:
		r.load(t, r.addr(), r.width())
	case 10:
		r.fetch(t, r.addr()&^uint64(r.rng.Intn(2)*7))
		r.peek(t, span{r.addr(), uint64(r.rng.Intn(700))})
	case 11:
		r.swap(t)
	}
}

// swap goes on with a copy, or with what is put of the pages.
func (r *stirrer) swap(t *testing.T) {
	t.Helper()
	if r.rng.Intn(2) == 0 {
		r.put(t)
		return
	}
	old := r.s
	r.s = old.Copy()
	_ = old.Poke(0, make([]byte, 256))
	_ = old.Unmap(256, 256)
	r.check(t, "Copy", api.OK, api.OK)
}

// P13.1 to P13.7: long stirred sequences of calls are held against the chapter's words.
func TestStirred(t *testing.T) {
	for seed := range int64(40) {
		r := &stirrer{rand.New(rand.NewSource(seed)), pair{New(), plain{}}}
		for range 1500 {
			r.step(t)
		}
	}
}

// P13.7: Put of what Pages returned yields the same memory: all calls answer the same, and change the same.
func TestPutOfPages(t *testing.T) {
	for _, p := range places(t) {
		s, e := Put(p.s.Pages())
		good(t, "Put", e)
		has(t, s, p.s.Pages()...)
		again := pair{s, p.m}
		for _, addr := range numbers {
			again.fetch(t, addr)
			again.load(t, addr, 8)
			again.peek(t, span{addr, 256})
			for _, size := range []uint64{0, 256, 512, 768, top} {
				if len(p.m) < 100 || size == 256 {
					again.ranges(t, span{addr, size}, 5, "f", 7)
				}
			}
			again.store(t, addr, 4, addr)
		}
	}
}

// P13.7: Load returns what Store stored, modulo 2^8n, and all other bytes are unchanged.
func TestLoadOfStore(t *testing.T) {
	rng := rand.New(rand.NewSource(13))
	s := mapped(t, 256, 768, 6)
	good(t, "Map", s.Map(top-256, 256, 6, "", 0))
	filling := make([]byte, 768)
	rng.Read(filling)
	good(t, "Poke", s.Poke(256, filling))
	good(t, "Poke", s.Poke(top-256, filling[:256]))
	for range 20000 {
		n := widths[rng.Intn(4)]
		addr, from, size := 256+uint64(rng.Intn(768-n+1)), uint64(256), uint64(768)
		if rng.Intn(4) == 0 {
			addr, from, size = top-256+uint64(rng.Intn(256-n+1)), top-256, 256
		}
		x := rng.Uint64() >> rng.Intn(64)
		before := peeked(t, s, from, size)
		good(t, "Store", s.Store(addr, n, x))
		if got, e := s.Load(addr, n); got != number(little(n, x)) || e != api.OK {
			t.Fatalf("Load of %d, %d behind Store of %d: %d, %d", addr, n, x, got, e)
		}
		after := peeked(t, s, from, size)
		copy(before[addr-from:], after[addr-from:][:n])
		if !bytes.Equal(before, after) {
			t.Fatalf("Store of %d, %d changed other bytes", addr, n)
		}
	}
}

// same fails the test unless memory has these pages behind a call.
func same(t *testing.T, what string, s *Space, want []Page) {
	t.Helper()
	if !reflect.DeepEqual(s.Pages(), want) {
		t.Fatalf("%s changed something", what)
	}
}

// P13.6: a call with an error changes nothing, whatever the memory is.
func TestErrorsChangeNothing(t *testing.T) {
	for _, p := range places(t) {
		l := p.s.Pages()
		for _, r := range append(slices.Clone(wrongRanges), gaps...) {
			for what, call := range map[string]func(s *Space) api.Errno{
				"Map":     func(s *Space) api.Errno { return s.Map(r.addr, r.size, 6, "f", 1) },
				"Unmap":   func(s *Space) api.Errno { return s.Unmap(r.addr, r.size) },
				"Protect": func(s *Space) api.Errno { return s.Protect(r.addr, r.size, 1) },
				"Store":   func(s *Space) api.Errno { return s.Store(r.addr, 8, math.MaxUint64) },
				"Poke":    func(s *Space) api.Errno { return s.Poke(r.addr, bytes.Repeat([]byte{255}, 800)) },
			} {
				s := p.s.Copy()
				if e := call(s); e != api.OK {
					same(t, fmt.Sprint(what, " of ", r), s, l)
				}
			}
		}
	}
}
