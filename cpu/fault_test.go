package cpu

import (
	"encoding/binary"
	"fmt"
	"reflect"
	"slices"
	"strings"
	"testing"

	"dormouse/api"
	"dormouse/isa"
	"dormouse/vmem"
)

// P14.1: a Pc that is not a multiple of 8 is the first error, whether there is a page or not.
func TestPcNotAMultiple(t *testing.T) {
	for _, text := range []string{"movi 1 1, movi 1 2", "trap 1, trap 2", "st8 1 2 0, div 1 2 3"} {
		for _, base := range []uint64{0, 248, 256, here, 1024, 1280, 5000 * 256, 1 << 31, top - 8, top, sign, most - 7} {
			for d := uint64(1); d < 8; d++ {
				m := memory(t, page(0, 7, false), page(256, 1, false), page(1024, 7, false), page(1280, 4, true), page(top-256, 7, false))
				good(t, "Poke", m.Poke(1024, words(t, text)))
				good(t, "Poke", m.Poke(here, words(t, text)))
				fails(t, "Pc", ready(base+d), m, api.ErrArg, base+d)
			}
		}
	}
}

// P14.1: a page that does not exist, also between others, beyond the last one, and above 2^32.
func TestNoPageAtPc(t *testing.T) {
	m := memory(t, page(256, 7, false), page(768, 7, false), page(top-256, 7, false))
	for _, pc := range []uint64{0, 248, 512, 760, 1024, 1 << 31, top - 264, top, top + 8, top + 256, 2*top + 256, sign, sign + 256, most - 7} {
		fails(t, "no page", ready(pc), m, api.ErrMap, pc)
		fails(t, "memory without a page", ready(pc), vmem.New(), api.ErrMap, pc)
	}
}

// P14.1: a page is executed if Exec belongs to its protection, whatever else does.
func TestProtectionAtPc(t *testing.T) {
	for prot := range 8 {
		for _, addr := range []uint64{0, 1024, top - 256} {
			for _, d := range []uint64{0, 8, 248} {
				m := memory(t, page(addr, prot, false))
				good(t, "Poke", m.Poke(addr+d, words(t, "movi 5 6")))
				s := ready(addr + d)
				if prot%2 == 0 {
					fails(t, fmt.Sprint("protection ", prot), s, m, api.ErrProt, s.Pc)
					continue
				}
				quiet(t, fmt.Sprint("protection ", prot), s, m, at(with(s, regs{5: 6}), s.Pc+8), Outcome{})
			}
		}
	}
}

// refuses fails the test unless a word is no instruction.
func refuses(t *testing.T, w uint64) {
	t.Helper()
	b := binary.LittleEndian.AppendUint64(nil, w)
	for _, pc := range []uint64{here, 0, 504, top - 8} {
		m := code(t, pc, "nop")
		good(t, "Poke", m.Poke(pc, b))
		fails(t, fmt.Sprintf("word %x", w), ready(pc), m, api.ErrCode, pc)
	}
}

// listed is an operation as the document lists it: its number and the fields that it uses.
type listed struct {
	op   int
	uses string
}

// list are all of them, by their numbers.
func list() []listed {
	var l []listed
	for fields, ops := range map[string][]int{
		"":    {1, 40},
		"ab":  {2, 37},
		"abc": {3, 4, 5, 6, 7, 8, 9, 10, 11, 12, 13, 14, 15},
		"abi": {16, 20, 21, 22, 23, 24, 25, 26, 27, 30, 31, 32, 33},
		"ai":  {17, 18, 35, 38, 39},
		"i":   {34, 41},
		"b":   {36},
	} {
		for _, op := range ops {
			l = append(l, listed{op, fields})
		}
	}
	slices.SortFunc(l, func(a, b listed) int { return a.op - b.op })
	return l
}

// P14.1: words that are no instructions, in each way: of no operation, with a field that the operation does not use, with bits between the fields.
func TestNoInstruction(t *testing.T) {
	uses := map[int]string{}
	for _, o := range list() {
		uses[o.op] = o.uses
	}
	if len(uses) != 38 {
		t.Fatal(len(uses))
	}
	for op := range 256 {
		w := uint64(op)
		if _, known := uses[op]; !known {
			for _, more := range []uint64{0, 1 << 8, 1 << 13, 1 << 18, 1 << 23, 1 << 32, most - 255} {
				refuses(t, w+more)
			}
			continue
		}
		for letter, from := range map[string]uint64{"a": 8, "b": 13, "c": 18} {
			if !strings.Contains(uses[op], letter) {
				for _, x := range []uint64{1, 16, 31} {
					refuses(t, w+x<<from)
				}
			}
		}
		if !strings.Contains(uses[op], "i") {
			for _, x := range []uint64{1, 1 << 31, 1<<32 - 1} {
				refuses(t, w+x<<32)
			}
		}
		for bit := 23; bit < 32; bit++ {
			refuses(t, w+1<<bit)
		}
	}
	refuses(t, 0)
	refuses(t, most)
}

// P14.2: without memory each Pc is a Fault with ErrArg, also one that is not a multiple of 8.
func TestNilMemory(t *testing.T) {
	for _, pc := range []uint64{0, 1, 4, 7, 8, 9, 256, 257, here, 1 << 31, top - 8, top - 1, top, top + 8, sign, sign + 1, most - 7, most - 1, most} {
		s := ready(pc)
		got, o := Step(s, nil)
		if got != s || o != (Outcome{Kind: Fault, Err: api.ErrArg, At: pc}) {
			t.Errorf("Pc %d: %+v", pc, o)
		}
		if got, o := Step(State{Pc: pc}, nil); got != (State{Pc: pc}) || o != (Outcome{Kind: Fault, Err: api.ErrArg, At: pc}) {
			t.Errorf("Pc %d: %+v", pc, o)
		}
	}
}

// plainWord is an instruction's word, as the sum that the document gives.
func plainWord(op, a, b, c int, imm int32) uint64 {
	return uint64(op) + 256*uint64(a) + 8192*uint64(b) + 262144*uint64(c) + uint64(uint32(imm))*4294967296
}

// fits is the instruction of an operation with numbers in the fields that it uses, and 0 in the others.
func (o listed) fits(a, b, c int, imm int32) uint64 {
	if !strings.Contains(o.uses, "a") {
		a = 0
	}
	if !strings.Contains(o.uses, "b") {
		b = 0
	}
	if !strings.Contains(o.uses, "c") {
		c = 0
	}
	if !strings.Contains(o.uses, "i") {
		imm = 0
	}
	return plainWord(o.op, a, b, c, imm)
}

// P14.2 and P14.3: whatever an operation does, registers that it does not name stay, and so does Tls; just stores change memory, and with a Fault nothing changes at all.
func TestOnlyWhatIsNamed(t *testing.T) {
	faults, changed := map[api.Errno]int{}, 0
	for _, o := range list() {
		for _, f := range [][3]int{{1, 2, 3}, {0, 31, 30}, {31, 0, 1}, {5, 5, 6}, {5, 6, 5}, {6, 5, 5}, {7, 7, 7}} {
			for _, imm := range []int32{0, 8, -8, 40, 3000, great, least} {
				for _, x := range []uint64{0, 1, 2100, 2300, 2600, 2900, 3100, sign, most} {
					outcome, written := onlyNamed(t, o, f, imm, x)
					if outcome.Kind == Fault {
						faults[outcome.Err]++
					}
					if written {
						changed++
					}
				}
			}
		}
	}
	if faults[api.ErrMap] < 10 || faults[api.ErrProt] < 10 || faults[api.ErrDivide] < 10 || len(faults) != 3 || changed < 10 {
		t.Error(faults, changed)
	}
}

// onlyNamed fails the test if an operation with a number in registers B and C changes what it does not name; it tells whether memory changed.
func onlyNamed(t *testing.T, o listed, f [3]int, imm int32, x uint64) (Outcome, bool) {
	t.Helper()
	m := field(t, "nop")
	w := o.fits(f[0], f[1], f[2], imm)
	good(t, "Poke", m.Poke(here, binary.LittleEndian.AppendUint64(nil, w)))
	s := with(with(ready(here), regs{f[1]: x}), regs{f[2]: x})
	pages := m.Pages()
	got, outcome := Step(s, m)
	same := at(s, got.Pc)
	if changes(o.op) {
		same.Regs[f[0]] = got.Regs[f[0]]
	}
	if outcome.Kind == Fault {
		same = s
	}
	if got != same {
		t.Fatalf("word %x with %x: more changed than is named: %+v beside %+v", w, x, got, outcome)
	}
	if outcome.Kind != Fault && outcome.Err != api.OK || outcome.Kind != Fault && outcome.Kind != Trap && outcome.At != 0 {
		t.Fatalf("word %x with %x: %+v", w, x, outcome)
	}
	written := !reflect.DeepEqual(m.Pages(), pages)
	if written && (o.op < isa.OpSt1 || o.op > isa.OpSt8 || outcome.Kind == Fault) {
		t.Fatalf("word %x with %x: memory changed beside %+v", w, x, outcome)
	}
	return outcome, written
}

// changes tells whether an operation gives register A a number.
func changes(op int) bool {
	switch op {
	case isa.OpNop, isa.OpSt1, isa.OpSt2, isa.OpSt4, isa.OpSt8, isa.OpBeq, isa.OpBne, isa.OpBlt, isa.OpBltu, isa.OpJmp, isa.OpJr, isa.OpSys, isa.OpTrap:
		return false
	}
	return true
}
