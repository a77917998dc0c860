package cpu

import (
	"math"
	"reflect"
	"strings"
	"testing"

	"dormouse/api"
	"dormouse/isa"
	"dormouse/vmem"
)

// here is where the instructions of most tests stand: neither at the first nor at the last word of a page.
const here = uint64(1032)

// top is where the addresses end.
const top = uint64(1) << 32

// Numbers at which something changes.
const (
	most  = math.MaxUint64 // as a signed number -1
	sign  = uint64(1) << 63
	least = math.MinInt32
	great = math.MaxInt32
	below = most - 1<<31 + 1 // least, modulo 2^64
)

// regs are the numbers in registers.
type regs map[int]uint64

// ready is a state with numbers that differ in all registers and in all their bytes.
func ready(pc uint64) State {
	s := State{Pc: pc, Tls: 0x7a69584736251403}
	for k := range s.Regs {
		s.Regs[k] = 0xc0d1e2f30415263f + uint64(k)*0x0101010101010101
	}
	return s
}

// with is a state with other numbers in some registers.
func with(s State, r regs) State {
	for k, x := range r {
		s.Regs[k] = x
	}
	return s
}

// at is a state with another Pc.
func at(s State, pc uint64) State {
	s.Pc = pc
	return s
}

// good fails the test if there is an error.
func good(t *testing.T, what string, e api.Errno) {
	t.Helper()
	if e != api.OK {
		t.Fatalf("%s: %d", what, e)
	}
}

// words are the bytes of the instructions of a text, which are separated by commas.
func words(t *testing.T, text string) []byte {
	t.Helper()
	b, e, _ := isa.Code(strings.ReplaceAll(text, ",", "\n"))
	good(t, text, e)
	return b
}

// page is one with bytes that differ; it comes from a file.
func page(addr uint64, prot int, dirty bool) vmem.Page {
	p := vmem.Page{Addr: addr, Prot: prot, Dirty: dirty, File: "f", Off: addr + 7, Bytes: make([]byte, 256)}
	for i := range p.Bytes {
		p.Bytes[i] = byte(addr/256) + byte(i)*3 + 1
	}
	return p
}

// memory is memory of pages.
func memory(t *testing.T, l ...vmem.Page) *vmem.Space {
	t.Helper()
	m, e := vmem.Put(l)
	good(t, "Put", e)
	return m
}

// code is memory with instructions from an address on, in a page that may just be executed, between two of which nothing may be done.
func code(t *testing.T, pc uint64, text string) *vmem.Space {
	t.Helper()
	addr := pc / 256 * 256
	l := []vmem.Page{page(addr, 1, false)}
	if addr > 0 {
		l = append([]vmem.Page{page(addr-256, 0, true)}, l...)
	}
	if addr+256 < top {
		l = append(l, page(addr+256, 0, false))
	}
	m := memory(t, l...)
	good(t, "Poke", m.Poke(pc, words(t, text)))
	return m
}

// steps fails the test unless a step answers this state and outcome, and memory has these pages behind it.
func steps(t *testing.T, what string, s State, m *vmem.Space, want State, outcome Outcome, pages []vmem.Page) {
	t.Helper()
	got, o := Step(s, m)
	if o != outcome {
		t.Fatalf("%s at %d: %+v; want %+v", what, s.Pc, o, outcome)
	}
	for k, x := range got.Regs {
		if x != want.Regs[k] {
			t.Fatalf("%s at %d: register %d is %x; want %x (it was %x)", what, s.Pc, k, x, want.Regs[k], s.Regs[k])
		}
	}
	if got.Pc != want.Pc || got.Tls != want.Tls {
		t.Fatalf("%s at %d: Pc %x, Tls %x; want %x, %x", what, s.Pc, got.Pc, got.Tls, want.Pc, want.Tls)
	}
	if !reflect.DeepEqual(m.Pages(), pages) {
		t.Fatalf("%s at %d: memory is not as it should be", what, s.Pc)
	}
}

// quiet fails the test unless a step answers this state and outcome, and memory stays as it is.
func quiet(t *testing.T, what string, s State, m *vmem.Space, want State, outcome Outcome) {
	t.Helper()
	steps(t, what, s, m, want, outcome, m.Pages())
}

// makes fails the test unless an instruction makes, of these registers, those, changes no other, and goes on with the next.
func makes(t *testing.T, text string, before, after regs) {
	t.Helper()
	for _, pc := range []uint64{here, 0, 256, 504, top - 8} {
		s := with(ready(pc), before)
		quiet(t, text, s, code(t, pc, text), at(with(s, after), pc+8), Outcome{})
	}
}

// fails fails the test unless a step ends in a Fault of this error and address; neither the state nor memory changes.
func fails(t *testing.T, what string, s State, m *vmem.Space, e api.Errno, addr uint64) {
	t.Helper()
	quiet(t, what, s, m, s, Outcome{Kind: Fault, Err: e, At: addr})
}

// P14.1: the chapter's examples.
func TestExamples(t *testing.T) {
	m := vmem.New()
	good(t, "Map", m.Map(256, 256, api.Exec, "", 0))
	good(t, "Poke", m.Poke(256, words(t, "movi 1 -1, div 1 2 3")))
	s := State{Pc: 256}
	next := State{Pc: 264}
	next.Regs[1] = most
	quiet(t, "movi", s, m, next, Outcome{})
	fails(t, "div", next, m, api.ErrDivide, 264)
	fails(t, "no page", State{Pc: 512}, m, api.ErrMap, 512)
}

// P14.1: the numbers of the outcomes' kinds.
func TestKinds(t *testing.T) {
	if Done != 0 || Sys != 1 || Trap != 2 || Fault != 3 {
		t.Error(Done, Sys, Trap, Fault)
	}
}

// P14.1: nop and mov.
func TestMov(t *testing.T) {
	makes(t, "nop", nil, nil)
	makes(t, "mov 1 2", regs{2: 5}, regs{1: 5})
	makes(t, "mov 2 1", regs{1: most}, regs{2: most})
	makes(t, "mov 0 31", regs{31: sign}, regs{0: sign})
	makes(t, "mov 31 0", regs{0: 0}, regs{31: 0})
	makes(t, "mov 7 7", regs{7: 99}, regs{7: 99})
}

// P14.1: sums, differences and products, some of which go over 64 bits.
func TestSums(t *testing.T) {
	makes(t, "add 1 2 3", regs{2: 5, 3: 7}, regs{1: 12})
	makes(t, "add 1 2 3", regs{2: most, 3: 1}, regs{1: 0})
	makes(t, "add 1 2 3", regs{2: most, 3: most}, regs{1: most - 1})
	makes(t, "add 0 31 30", regs{31: sign, 30: sign + 3}, regs{0: 3})
	makes(t, "add 4 4 5", regs{4: 1, 5: 2}, regs{4: 3})
	makes(t, "add 4 5 4", regs{4: 1, 5: 2}, regs{4: 3})
	makes(t, "add 4 4 4", regs{4: sign + 1}, regs{4: 2})
	makes(t, "sub 1 2 3", regs{2: 7, 3: 5}, regs{1: 2})
	makes(t, "sub 1 2 3", regs{2: 5, 3: 7}, regs{1: most - 1})
	makes(t, "sub 1 2 3", regs{2: 0, 3: most}, regs{1: 1})
	makes(t, "sub 4 4 5", regs{4: 10, 5: 3}, regs{4: 7})
	makes(t, "sub 4 5 4", regs{4: 10, 5: 3}, regs{4: most - 6})
	makes(t, "sub 4 4 4", regs{4: 10}, regs{4: 0})
	makes(t, "mul 1 2 3", regs{2: 6, 3: 7}, regs{1: 42})
	makes(t, "mul 1 2 3", regs{2: most, 3: most}, regs{1: 1})
	makes(t, "mul 1 2 3", regs{2: most, 3: 2}, regs{1: most - 1})
	makes(t, "mul 1 2 3", regs{2: 1 << 32, 3: 1 << 32}, regs{1: 0})
	makes(t, "mul 1 2 3", regs{2: 1<<32 + 3, 3: 1<<32 + 5}, regs{1: 8<<32 + 15})
	makes(t, "mul 31 31 31", regs{31: 1 << 31}, regs{31: 1 << 62})
	makes(t, "mul 1 2 3", regs{2: 0, 3: most}, regs{1: 0})
}

// P14.1: quotients and remainders; both are of unsigned numbers.
func TestQuotients(t *testing.T) {
	makes(t, "div 1 2 3", regs{2: 17, 3: 5}, regs{1: 3})
	makes(t, "rem 1 2 3", regs{2: 17, 3: 5}, regs{1: 2})
	makes(t, "div 1 2 3", regs{2: 4, 3: 5}, regs{1: 0})
	makes(t, "rem 1 2 3", regs{2: 4, 3: 5}, regs{1: 4})
	makes(t, "div 1 2 3", regs{2: most, 3: 1}, regs{1: most})
	makes(t, "rem 1 2 3", regs{2: most, 3: 1}, regs{1: 0})
	makes(t, "div 1 2 3", regs{2: most, 3: 2}, regs{1: sign - 1})
	makes(t, "rem 1 2 3", regs{2: most, 3: 2}, regs{1: 1})
	makes(t, "div 1 2 3", regs{2: most, 3: most}, regs{1: 1})
	makes(t, "rem 1 2 3", regs{2: most, 3: most}, regs{1: 0})
	makes(t, "div 1 2 3", regs{2: most - 1, 3: most}, regs{1: 0})
	makes(t, "rem 1 2 3", regs{2: most - 1, 3: most}, regs{1: most - 1})
	makes(t, "div 1 2 3", regs{2: sign, 3: most}, regs{1: 0})
	makes(t, "rem 1 2 3", regs{2: sign, 3: most}, regs{1: sign})
	makes(t, "div 1 2 3", regs{2: 0, 3: 5}, regs{1: 0})
	makes(t, "rem 1 2 3", regs{2: 0, 3: 5}, regs{1: 0})
	makes(t, "div 4 4 5", regs{4: 20, 5: 3}, regs{4: 6})
	makes(t, "div 4 5 4", regs{4: 3, 5: 20}, regs{4: 6})
	makes(t, "div 4 4 4", regs{4: 20}, regs{4: 1})
	makes(t, "rem 4 4 5", regs{4: 20, 5: 3}, regs{4: 2})
	makes(t, "rem 4 5 4", regs{4: 3, 5: 20}, regs{4: 2})
	makes(t, "rem 4 4 4", regs{4: 20}, regs{4: 0})
}

// P14.1 and P14.2: a division by 0 is a Fault at Pc, whatever is divided.
func TestDivisionByZero(t *testing.T) {
	for _, name := range []string{"div", "rem"} {
		for _, pc := range []uint64{here, 0, 504, top - 8} {
			for _, x := range []uint64{0, 1, sign, most} {
				for _, fields := range []string{" 1 2 3", " 3 2 3", " 2 2 3", " 0 31 3"} {
					text := name + fields
					fails(t, text, with(ready(pc), regs{2: x, 31: x, 3: 0}), code(t, pc, text), api.ErrDivide, pc)
				}
				text := name + " 4 4 4"
				fails(t, text, with(ready(pc), regs{4: 0}), code(t, pc, text), api.ErrDivide, pc)
			}
		}
	}
	// Just Rc counts.
	makes(t, "div 1 2 3", regs{1: 0, 2: 0, 3: 1, 0: 0}, regs{1: 0})
	makes(t, "rem 1 2 3", regs{1: 0, 2: 0, 3: 1, 0: 0}, regs{1: 0})
}

// P14.1: bits.
func TestBits(t *testing.T) {
	makes(t, "and 1 2 3", regs{2: 12, 3: 10}, regs{1: 8})
	makes(t, "or 1 2 3", regs{2: 12, 3: 10}, regs{1: 14})
	makes(t, "xor 1 2 3", regs{2: 12, 3: 10}, regs{1: 6})
	makes(t, "and 1 2 3", regs{2: most, 3: sign + 5}, regs{1: sign + 5})
	makes(t, "or 1 2 3", regs{2: sign, 3: 5}, regs{1: sign + 5})
	makes(t, "xor 1 2 3", regs{2: most, 3: sign + 5}, regs{1: sign - 6})
	makes(t, "and 4 4 5", regs{4: 12, 5: 10}, regs{4: 8})
	makes(t, "or 4 5 4", regs{4: 12, 5: 10}, regs{4: 14})
	makes(t, "xor 4 4 4", regs{4: 12}, regs{4: 0})
	makes(t, "and 4 4 4", regs{4: 12}, regs{4: 12})
	makes(t, "or 4 4 4", regs{4: 12}, regs{4: 12})
}

// P14.1: shifts, by Rc modulo 64.
func TestShifts(t *testing.T) {
	for _, c := range []struct {
		by            uint64
		shl, shr, sar uint64 // of 0x8000000000000005
	}{
		{0, sign + 5, sign + 5, sign + 5},
		{1, 10, 1<<62 + 2, 3<<62 + 2},
		{2, 20, 1<<61 + 1, 7<<61 + 1},
		{3, 40, 1 << 60, 15 << 60},
		{62, 1 << 62, 2, most - 1},
		{63, sign, 1, most},
		{64, sign + 5, sign + 5, sign + 5},
		{65, 10, 1<<62 + 2, 3<<62 + 2},
		{127, sign, 1, most},
		{128, sign + 5, sign + 5, sign + 5},
		{sign, sign + 5, sign + 5, sign + 5},
		{sign + 1, 10, 1<<62 + 2, 3<<62 + 2},
		{1 << 32, sign + 5, sign + 5, sign + 5},
		{most - 63, sign + 5, sign + 5, sign + 5},
		{most - 62, 10, 1<<62 + 2, 3<<62 + 2},
		{most - 1, 1 << 62, 2, most - 1},
		{most, sign, 1, most},
	} {
		before := regs{2: sign + 5, 3: c.by}
		makes(t, "shl 1 2 3", before, regs{1: c.shl})
		makes(t, "shr 1 2 3", before, regs{1: c.shr})
		makes(t, "sar 1 2 3", before, regs{1: c.sar})
		makes(t, "shl 2 2 3", before, regs{2: c.shl})
		makes(t, "shr 3 2 3", before, regs{3: c.shr})
		makes(t, "sar 3 2 3", before, regs{3: c.sar})
	}
	makes(t, "sar 1 2 3", regs{2: sign - 1, 3: 1}, regs{1: 1<<62 - 1})
	makes(t, "sar 1 2 3", regs{2: sign - 1, 3: 63}, regs{1: 0})
	makes(t, "sar 1 2 3", regs{2: most, 3: 1}, regs{1: most})
	makes(t, "sar 1 2 3", regs{2: most - 2, 3: 1}, regs{1: most - 1}) // -3 / 2, rounded down
	makes(t, "shl 1 2 3", regs{2: most, 3: 1}, regs{1: most - 1})
	makes(t, "shl 4 4 4", regs{4: 4}, regs{4: 64})
	makes(t, "shr 4 4 4", regs{4: 66}, regs{4: 16})
	makes(t, "sar 4 4 4", regs{4: sign + 1}, regs{4: 3 << 62})
}

// P14.1: which number is less, signed and unsigned.
func TestLess(t *testing.T) {
	for _, c := range []struct{ b, c, slt, sltu uint64 }{
		{0, 0, 0, 0}, {0, 1, 1, 1}, {1, 0, 0, 0}, {5, 5, 0, 0},
		{most, 0, 1, 0}, {0, most, 0, 1}, {most, most, 0, 0}, {most - 1, most, 1, 1}, {most, most - 1, 0, 0},
		{sign, sign - 1, 1, 0}, {sign - 1, sign, 0, 1}, {sign, sign, 0, 0}, {sign - 1, sign - 1, 0, 0},
		{sign, 0, 1, 0}, {0, sign, 0, 1}, {sign, most, 1, 1}, {most, sign, 0, 0}, {sign, sign + 1, 1, 1},
		{sign - 2, sign - 1, 1, 1}, {sign - 1, most, 0, 1}, {most, sign - 1, 1, 0},
		{1 << 32, 1, 0, 0}, {1, 1 << 32, 1, 1}, {1 << 31, 1<<31 - 1, 0, 0},
	} {
		before := regs{2: c.b, 3: c.c}
		makes(t, "slt 1 2 3", before, regs{1: c.slt})
		makes(t, "sltu 1 2 3", before, regs{1: c.sltu})
		makes(t, "slt 2 2 3", before, regs{2: c.slt})
		makes(t, "sltu 3 2 3", before, regs{3: c.sltu})
	}
	makes(t, "slt 4 4 4", regs{4: most}, regs{4: 0})
	makes(t, "sltu 4 4 4", regs{4: most}, regs{4: 0})
}

// P14.1: addi, movi and movhi, with numbers from the least to the greatest.
func TestImm(t *testing.T) {
	makes(t, "addi 1 2 5", regs{2: 7}, regs{1: 12})
	makes(t, "addi 1 2 -5", regs{2: 7}, regs{1: 2})
	makes(t, "addi 1 2 -1", regs{2: 0}, regs{1: most})
	makes(t, "addi 1 2 1", regs{2: most}, regs{1: 0})
	makes(t, "addi 1 2 0", regs{2: sign}, regs{1: sign})
	makes(t, "addi 1 2 2147483647", regs{2: 1}, regs{1: 1 << 31})
	makes(t, "addi 1 2 -2147483648", regs{2: 0}, regs{1: below})
	makes(t, "addi 1 2 -2147483648", regs{2: 1 << 31}, regs{1: 0})
	makes(t, "addi 4 4 -1", regs{4: 7}, regs{4: 6})
	makes(t, "movi 1 5", nil, regs{1: 5})
	makes(t, "movi 1 0", nil, regs{1: 0})
	makes(t, "movi 1 -1", nil, regs{1: most})
	makes(t, "movi 0 -2", nil, regs{0: most - 1})
	makes(t, "movi 31 2147483647", nil, regs{31: 1<<31 - 1})
	makes(t, "movi 31 -2147483648", nil, regs{31: below})
	low := uint64(0x89abcdef)
	for _, high := range []uint64{0, 1, 1 << 31, 0xffffffff} {
		before := regs{1: high<<32 + low}
		makes(t, "movhi 1 0", before, regs{1: low})
		makes(t, "movhi 1 5", before, regs{1: 5<<32 + low})
		makes(t, "movhi 1 -1", before, regs{1: 0xffffffff<<32 + low})
		makes(t, "movhi 1 -2", before, regs{1: 0xfffffffe<<32 + low})
		makes(t, "movhi 1 2147483647", before, regs{1: 0x7fffffff<<32 + low})
		makes(t, "movhi 1 -2147483648", before, regs{1: sign + low})
	}
	makes(t, "movhi 31 1", regs{31: most}, regs{31: 1<<33 - 1})
	makes(t, "movhi 0 -1", regs{0: 0}, regs{0: most - 1<<32 + 1})
}

// P14.1: lea and tls, with numbers from the least to the greatest.
func TestLeaAndTls(t *testing.T) {
	for _, pc := range []uint64{0, 256, here, 1 << 31, top - 8} {
		for text, i := range map[string]uint64{"0": 0, "8": 8, "1": 1, "-1": most, "-8": most - 7, "-2048": most - 2047, "2147483647": great, "-2147483648": below} {
			s := ready(pc)
			quiet(t, "lea", s, code(t, pc, "lea 5 "+text), at(with(s, regs{5: pc + i}), pc+8), Outcome{})
			for _, pointer := range []uint64{0, 7, 1 << 31, sign, most} {
				s.Tls = pointer
				quiet(t, "tls", s, code(t, pc, "tls 5 "+text), at(with(s, regs{5: pointer + i}), pc+8), Outcome{})
			}
		}
	}
}

// P14.1: sys and trap go on behind them, and tell what they are.
func TestSysAndTrap(t *testing.T) {
	for _, pc := range []uint64{0, 256, here, 504, top - 8} {
		s := ready(pc)
		quiet(t, "sys", s, code(t, pc, "sys"), at(s, pc+8), Outcome{Kind: Sys})
		for text, i := range map[string]uint64{"0": 0, "1": 1, "7": 7, "-1": most, "-7": most - 6, "2147483647": great, "-2147483648": below} {
			quiet(t, "trap "+text, s, code(t, pc, "trap "+text), at(s, pc+8), Outcome{Kind: Trap, At: i})
		}
	}
}
