package cpu

import (
	"fmt"
	"math/bits"
	"testing"

	"dormouse/api"
	"dormouse/vmem"
)

// widths are the loads and stores, by how many bytes they have.
var widths = []int{1, 2, 4, 8}

// field is the memory of these tests: instructions, and data with which different things may be done.
//
//	   0  written and read, the first page
//	1024  executed (the instructions)
//	2048  written and read
//	2304  written and read, from a file, Dirty
//	2560  read
//	2816  written
//	3072  nothing
//	3328  executed
//	3584  written, read and executed
//	top-256  written and read, the last page
func field(t *testing.T, text string) *vmem.Space {
	t.Helper()
	m := memory(t, page(0, 6, false), page(1024, 1, false), page(2048, 6, false), page(2304, 6, true), page(2560, 4, false),
		page(2816, 2, false), page(3072, 0, false), page(3328, 1, false), page(3584, 7, false), page(top-256, 6, false))
	good(t, "Poke", m.Poke(here, words(t, text)))
	return m
}

// prots is what may be done with the byte at an address of field; false: there is no page.
func prots(addr uint64) (int, bool) {
	switch addr / 256 {
	case 0, 2048 / 256, 2304 / 256, top/256 - 1:
		return 6, true
	case 1024 / 256, 3328 / 256:
		return 1, true
	case 2560 / 256:
		return 4, true
	case 2816 / 256:
		return 2, true
	case 3072 / 256:
		return 0, true
	case 3584 / 256:
		return 7, true
	}
	return 0, false
}

// access is the error of an access of n bytes of field, and whether it goes over the border of two pages.
func access(addr uint64, n, right int) (api.Errno, bool) {
	e := api.OK
	for i := range uint64(n) {
		prot, exists := prots(addr + i)
		if !exists || addr > addr+i {
			return api.ErrMap, false
		}
		if prot&right == 0 {
			e = api.ErrProt
		}
	}
	return e, addr/256 != (addr+uint64(n)-1)/256
}

// addresses are those near the borders of all pages of field, and near 2^64.
func addresses() []uint64 {
	l := []uint64{0, 1, 7, 8, 100, 2048 + 100, 2304 + 99, 2560 + 98, 2816 + 97, 3072 + 96, 3328 + 95, 3584 + 94, 1 << 31, sign, sign + 2100, 2*top + 2100}
	for _, border := range []uint64{256, 1024, 1280, 2048, 2304, 2560, 2816, 3072, 3328, 3584, 3840, top - 256, top, 0} {
		for d := range uint64(10) {
			l = append(l, border-d, border+d)
		}
	}
	return l
}

// sums are ways to make an address of Rb and Imm, some of which go over 64 bits.
func sums(addr uint64) []struct {
	b   uint64
	imm int32
} {
	var l []struct {
		b   uint64
		imm int32
	}
	for _, imm := range []int32{0, 1, -1, 300, -300, great, least} {
		l = append(l, struct {
			b   uint64
			imm int32
		}{addr - uint64(imm), imm})
	}
	return l
}

// little is the number of bytes whose lowest is the first.
func little(b []byte) uint64 {
	x := uint64(0)
	for k, y := range b {
		x += uint64(y) << (8 * k)
	}
	return x
}

// P14.1: loads written out: the upper bits become 0, the lowest byte is the first.
func TestLoadsWrittenOut(t *testing.T) {
	for n, want := range map[int]uint64{1: 0xf1, 2: 0xe2f1, 4: 0xc4d3e2f1, 8: 0x8897a6b5c4d3e2f1} {
		text := fmt.Sprintf("ld%d 1 2 16", n)
		m := field(t, text)
		good(t, "Poke", m.Poke(2064, []byte{0xf1, 0xe2, 0xd3, 0xc4, 0xb5, 0xa6, 0x97, 0x88, 0x79}))
		s := with(ready(here), regs{1: most, 2: 2048})
		quiet(t, text, s, m, at(with(s, regs{1: want}), here+8), Outcome{})
		good(t, "Poke", m.Poke(2300, []byte{0xf1, 0xe2, 0xd3, 0xc4, 0xb5, 0xa6, 0x97, 0x88, 0x79}))
		s = with(ready(here), regs{1: most, 2: 2284})
		quiet(t, text, s, m, at(with(s, regs{1: want}), here+8), Outcome{})
	}
}

// P14.1: stores written out: the low bytes alone, the lowest first, and the page is Dirty behind it.
func TestStoresWrittenOut(t *testing.T) {
	for n, want := range map[int][]byte{
		1: {9, 0x12, 9, 9, 9, 9, 9, 9, 9, 9},
		2: {9, 0x12, 0xf0, 9, 9, 9, 9, 9, 9, 9},
		4: {9, 0x12, 0xf0, 0xde, 0xbc, 9, 9, 9, 9, 9},
		8: {9, 0x12, 0xf0, 0xde, 0xbc, 0x9a, 0x78, 0x56, 0x34, 9},
	} {
		text := fmt.Sprintf("st%d 1 2 -16", n)
		m := field(t, text)
		good(t, "Poke", m.Poke(2063, []byte{9, 9, 9, 9, 9, 9, 9, 9, 9, 9}))
		pages := m.Pages()
		copy(pages[2].Bytes[15:], want)
		pages[2].Dirty = true
		s := with(ready(here), regs{1: 0x3456789abcdef012, 2: 2080})
		steps(t, text, s, m, at(s, here+8), Outcome{}, pages)
	}
}

// P14.1: loads at all edges: within a page, over borders, at both ends of memory, where there is no page, and where nothing may be read.
func TestLoads(t *testing.T) {
	told := map[api.Errno]int{}
	over := 0
	for _, n := range widths {
		for _, addr := range addresses() {
			for _, sum := range sums(addr) {
				text := fmt.Sprintf("ld%d 1 2 %d", n, sum.imm)
				m := field(t, text)
				s := with(ready(here), regs{2: sum.b})
				e, crosses := access(addr, n, 4)
				told[e]++
				if e != api.OK {
					fails(t, text, s, m, e, addr)
					continue
				}
				if crosses {
					over++
				}
				b, e := m.Peek(addr, uint64(n))
				good(t, "Peek", e)
				quiet(t, text, s, m, at(with(s, regs{1: little(b)}), here+8), Outcome{})
			}
		}
	}
	if told[api.OK] < 100 || told[api.ErrMap] < 100 || told[api.ErrProt] < 100 || over < 20 {
		t.Error(told, over)
	}
}

// P14.1 and P14.2: stores at all edges; with a Fault not a byte and no flag changes, also where just the second of two pages refuses.
func TestStores(t *testing.T) {
	told := map[api.Errno]int{}
	over := 0
	for _, n := range widths {
		for _, addr := range addresses() {
			for _, sum := range sums(addr) {
				text := fmt.Sprintf("st%d 1 2 %d", n, sum.imm)
				m := field(t, text)
				s := with(ready(here), regs{2: sum.b})
				e, crosses := access(addr, n, 2)
				told[e]++
				if e != api.OK {
					fails(t, text, s, m, e, addr)
					continue
				}
				if crosses {
					over++
				}
				pages := m.Pages()
				write(pages, addr, n, s.Regs[1])
				steps(t, text, s, m, at(s, here+8), Outcome{}, pages)
			}
		}
	}
	if told[api.OK] < 100 || told[api.ErrMap] < 100 || told[api.ErrProt] < 100 || over < 20 {
		t.Error(told, over)
	}
}

// write writes a number's low bytes to pages, and makes those that get one Dirty.
func write(pages []vmem.Page, addr uint64, n int, x uint64) {
	for k := range n {
		a := addr + uint64(k)
		for j := range pages {
			if p := &pages[j]; p.Addr == a/256*256 {
				p.Bytes[a%256] = byte(x >> (8 * k))
				p.Dirty = true
			}
		}
	}
}

// P14.1: loads and stores whose registers are the same, and others than the first.
func TestMemoryRegisters(t *testing.T) {
	for _, n := range widths {
		text := fmt.Sprintf("ld%d 3 3 8", n)
		m := field(t, text)
		b, e := m.Peek(2108, uint64(n))
		good(t, "Peek", e)
		s := with(ready(here), regs{3: 2100})
		quiet(t, text, s, m, at(with(s, regs{3: little(b)}), here+8), Outcome{})
		text = fmt.Sprintf("ld%d 31 0 8", n)
		m = field(t, text)
		s = with(ready(here), regs{0: 2100})
		quiet(t, text, s, m, at(with(s, regs{31: little(b)}), here+8), Outcome{})
		text = fmt.Sprintf("st%d 3 3 8", n)
		m = field(t, text)
		pages := m.Pages()
		write(pages, 2108, n, 2100)
		s = with(ready(here), regs{3: 2100})
		steps(t, text, s, m, at(s, here+8), Outcome{}, pages)
		text = fmt.Sprintf("st%d 0 31 8", n)
		m = field(t, text)
		pages = m.Pages()
		s = with(ready(here), regs{31: 2100})
		write(pages, 2108, n, s.Regs[0])
		steps(t, text, s, m, at(s, here+8), Outcome{}, pages)
	}
}

// P14.1: a load fills the upper bits with 0, whatever stood in Ra and whatever the sign of what is loaded is.
func TestUpperBits(t *testing.T) {
	for _, n := range widths {
		text := fmt.Sprintf("ld%d 1 2 0", n)
		m := field(t, text)
		good(t, "Poke", m.Poke(2048, []byte{255, 255, 255, 255, 255, 255, 255, 255, 255, 255}))
		for _, old := range []uint64{0, most, sign} {
			s := with(ready(here), regs{1: old, 2: 2048})
			got, o := Step(s, m)
			if o != (Outcome{}) || bits.OnesCount64(got.Regs[1]) != 8*n || bits.Len64(got.Regs[1]) != 8*n {
				t.Errorf("%s: %x, %+v", text, got.Regs[1], o)
			}
		}
	}
}

// P14.1: what was stored is what is executed: an instruction may change the next one, and itself for the next time.
func TestStoreOfInstructions(t *testing.T) {
	m := field(t, "nop")
	good(t, "Poke", m.Poke(3584, words(t, "st8 1 2 8, nop, st8 3 2 0")))
	s := with(ready(3584), regs{1: little(words(t, "movi 9 77")), 2: 3584, 3: little(words(t, "trap 5"))})
	pages := m.Pages()
	write(pages, 3592, 8, s.Regs[1])
	steps(t, "st8 of the next", s, m, at(s, 3592), Outcome{}, pages)
	next := at(with(s, regs{9: 77}), 3600)
	quiet(t, "what was stored", at(s, 3592), m, next, Outcome{})
	write(pages, 3584, 8, s.Regs[3])
	steps(t, "st8 of the first", next, m, at(next, 3608), Outcome{}, pages)
	quiet(t, "what was stored", at(next, 3584), m, at(next, 3592), Outcome{Kind: Trap, At: 5})
	own := at(with(ready(3584), regs{1: little(words(t, "sys")), 2: 3576}), 3592)
	good(t, "Poke", m.Poke(3592, words(t, "st8 1 2 16")))
	pages = m.Pages()
	write(pages, 3592, 8, own.Regs[1])
	steps(t, "st8 of itself", own, m, at(own, 3600), Outcome{}, pages)
	quiet(t, "what was stored", own, m, at(own, 3600), Outcome{Kind: Sys})
}
