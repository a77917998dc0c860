package cpu

import (
	"encoding/binary"
	"fmt"
	"math/big"
	"math/rand"
	"strings"
	"testing"

	"dormouse/api"
	"dormouse/vmem"
)

// plain is a processor by the chapter's words: it reckons with exact numbers, and looks at memory byte by byte.
type plain struct {
	s     State
	pages []vmem.Page
}

// power is 2^k.
func power(k int64) *big.Int { return new(big.Int).Exp(big.NewInt(2), big.NewInt(k), nil) }

// exact is a number, and signed is what it represents as a signed one.
func exact(x uint64) *big.Int { return new(big.Int).SetUint64(x) }

func signed(x uint64) *big.Int {
	if n := exact(x); n.Cmp(power(63)) < 0 {
		return n
	}
	return new(big.Int).Sub(exact(x), power(64))
}

// modulo is a number modulo 2^64.
func modulo(n *big.Int) uint64 { return new(big.Int).Mod(n, power(64)).Uint64() }

// sum is one of numbers of 64 bits.
func sum(a, b uint64) uint64 { return modulo(new(big.Int).Add(exact(a), exact(b))) }

// find is the page of an address; nil: there is none.
func (p *plain) find(addr uint64) *vmem.Page {
	for k := range p.pages {
		if q := &p.pages[k]; exact(addr).Cmp(exact(q.Addr)) >= 0 && addr-q.Addr < 256 {
			return q
		}
	}
	return nil
}

// bytes are pointers to n bytes with which something may be done, and the pages that they are in.
func (p *plain) bytes(addr uint64, n, right int) ([]*byte, []*vmem.Page, api.Errno) {
	var l []*byte
	var in []*vmem.Page
	e := api.OK
	for k := range n {
		a := new(big.Int).Add(exact(addr), big.NewInt(int64(k)))
		if a.Cmp(power(32)) >= 0 {
			return nil, nil, api.ErrMap
		}
		q := p.find(a.Uint64())
		if q == nil {
			return nil, nil, api.ErrMap
		}
		if q.Prot/right%2 == 0 {
			e = api.ErrProt
		}
		l, in = append(l, &q.Bytes[a.Uint64()-q.Addr]), append(in, q)
	}
	return l, in, e
}

// number is the one that bytes are.
func numberOf(l []*byte) uint64 {
	n := new(big.Int)
	for k, b := range l {
		n.Add(n, new(big.Int).Mul(big.NewInt(int64(*b)), power(int64(8*k))))
	}
	return n.Uint64()
}

// word is a word taken apart.
type word struct {
	op, a, b, c int
	i           uint64
}

// parts takes a word apart; false: it is no instruction.
func parts(w uint64) (word, bool) {
	n := word{int(w % 256), int(w >> 8 % 32), int(w >> 13 % 32), int(w >> 18 % 32), w >> 32}
	for _, o := range list() {
		if o.op == n.op && o.fits(n.a, n.b, n.c, int32(n.i)) == w {
			if n.i >= 1<<31 {
				n.i += most - 1<<32 + 1
			}
			return n, true
		}
	}
	return word{}, false
}

// fault is the outcome of an error, beside which nothing changes.
func (p *plain) fault(e api.Errno, at uint64) Outcome { return Outcome{Fault, e, at} }

// step does one.
func (p *plain) step() Outcome {
	pc := p.s.Pc
	if pc%8 != 0 {
		return p.fault(api.ErrArg, pc)
	}
	l, _, e := p.bytes(pc, 8, 1)
	if e != api.OK {
		return p.fault(e, pc)
	}
	n, valid := parts(numberOf(l))
	if !valid {
		return p.fault(api.ErrCode, pc)
	}
	switch {
	case n.op >= 20 && n.op <= 27:
		return p.memory(n)
	case n.op >= 30 && n.op <= 37:
		p.jump(n)
		return Outcome{}
	case (n.op == 6 || n.op == 7) && p.s.Regs[n.c] == 0:
		return p.fault(api.ErrDivide, pc)
	}
	if n.op != 1 && n.op < 40 {
		p.s.Regs[n.a] = p.value(n)
	}
	p.s.Pc = sum(pc, 8)
	switch n.op {
	case 40:
		return Outcome{Kind: Sys}
	case 41:
		return Outcome{Kind: Trap, At: n.i}
	}
	return Outcome{}
}

// memory loads or stores.
func (p *plain) memory(n word) Outcome {
	addr := sum(p.s.Regs[n.b], n.i)
	size := []int{1, 2, 4, 8}[n.op%4]
	right := 4
	if n.op >= 24 {
		right = 2
	}
	l, in, e := p.bytes(addr, size, right)
	if e != api.OK {
		return p.fault(e, addr)
	}
	if right == 4 {
		p.s.Regs[n.a] = numberOf(l)
	} else {
		for k, b := range binary.LittleEndian.AppendUint64(nil, p.s.Regs[n.a])[:size] {
			*l[k] = b
			in[k].Dirty = true
		}
	}
	p.s.Pc = sum(p.s.Pc, 8)
	return Outcome{}
}

// jump goes elsewhere.
func (p *plain) jump(n word) {
	a, b := p.s.Regs[n.a], p.s.Regs[n.b]
	next, far := sum(p.s.Pc, 8), sum(p.s.Pc, n.i)
	taken := map[int]bool{
		30: exact(a).Cmp(exact(b)) == 0,
		31: exact(a).Cmp(exact(b)) != 0,
		32: signed(a).Cmp(signed(b)) < 0,
		33: exact(a).Cmp(exact(b)) < 0,
		34: true,
		35: true,
	}
	p.s.Pc = next
	if taken[n.op] {
		p.s.Pc = far
	}
	if n.op >= 36 {
		p.s.Pc = b
	}
	if n.op == 35 || n.op == 37 {
		p.s.Regs[n.a] = next
	}
}

// value is what Ra becomes.
func (p *plain) value(n word) uint64 {
	a, b, c := exact(p.s.Regs[n.a]), exact(p.s.Regs[n.b]), exact(p.s.Regs[n.c])
	k := new(big.Int).Mod(c, big.NewInt(64)).Int64()
	r := new(big.Int)
	switch n.op {
	case 2:
		r = b
	case 3:
		r.Add(b, c)
	case 4:
		r.Sub(b, c)
	case 5:
		r.Mul(b, c)
	case 6:
		r.Div(b, c)
	case 7:
		r.Sub(b, new(big.Int).Mul(c, new(big.Int).Div(b, c)))
	case 8:
		r.And(b, c)
	case 9:
		r.Or(b, c)
	case 10:
		r.Xor(b, c)
	case 11:
		r.Mul(b, power(k))
	case 12:
		r.Div(b, power(k))
	case 13:
		r.Div(signed(b.Uint64()), power(k)) // Div rounds down, since the divisor is above 0
	case 14:
		r.SetInt64(one(signed(b.Uint64()).Cmp(signed(c.Uint64())) < 0))
	case 15:
		r.SetInt64(one(b.Cmp(c) < 0))
	case 16:
		r.Add(b, exact(n.i))
	case 17:
		r = exact(n.i)
	case 18:
		r.Add(new(big.Int).Mod(a, power(32)), new(big.Int).Mul(power(32), exact(n.i)))
	case 38:
		r.Add(exact(p.s.Pc), exact(n.i))
	case 39:
		r.Add(exact(p.s.Tls), exact(n.i))
	}
	return modulo(r)
}

// one is 1 for what holds.
func one(holds bool) int64 {
	if holds {
		return 1
	}
	return 0
}

// held fails the test unless a step is as the chapter's words have it, and answers the state behind it.
func held(t *testing.T, what string, s State, m *vmem.Space) (State, Outcome) {
	t.Helper()
	p := plain{s, m.Pages()}
	o := p.step()
	steps(t, what, s, m, p.s, o, p.pages)
	return p.s, o
}

// numbers are those near which something changes.
var numbers = []uint64{0, 1, 2, 3, 5, 31, 32, 33, 62, 63, 64, 65, 127, 128, 255, 256, 1<<31 - 1, 1 << 31, 1<<32 - 1, 1 << 32, 1<<32 + 1,
	sign - 1, sign, sign + 1, 0x0123456789abcdef, 0xfedcba9876543210, below, most - 64, most - 63, most - 62, most - 1, most}

// P14.1: every operation of three registers, with all pairs of numbers, and registers that are the same and that differ, is held against the chapter's words.
func TestRegistersReckoned(t *testing.T) {
	for _, o := range list() {
		if o.uses != "abc" && o.uses != "ab" {
			continue
		}
		for _, f := range [][3]int{{1, 2, 3}, {4, 4, 5}, {4, 5, 4}, {5, 4, 4}, {6, 6, 6}, {0, 31, 30}, {31, 0, 16}, {8, 31, 0}} {
			m := code(t, here, "nop")
			w := o.fits(f[0], f[1], f[2], 0)
			good(t, "Poke", m.Poke(here, binary.LittleEndian.AppendUint64(nil, w)))
			for _, b := range numbers {
				for _, c := range numbers {
					held(t, fmt.Sprintf("word %x with %x, %x", w, b, c), with(with(ready(here), regs{f[1]: b}), regs{f[2]: c}), m)
				}
			}
		}
	}
}

// P14.1: every operation with an Imm, with numbers in its registers near which something changes, is held against the chapter's words.
func TestImmsReckoned(t *testing.T) {
	imms := []int32{0, 1, -1, 7, 8, -8, 255, 256, -256, 65535, 1 << 30, -1 << 30, great - 1, great, least, least + 1, 0x12345678, -0x12345678}
	for _, o := range list() {
		if !strings.Contains(o.uses, "i") {
			continue
		}
		for _, f := range [][2]int{{1, 2}, {4, 4}, {0, 31}, {31, 0}} {
			for _, imm := range imms {
				m := field(t, "nop")
				w := o.fits(f[0], f[1], 0, imm)
				good(t, "Poke", m.Poke(here, binary.LittleEndian.AppendUint64(nil, w)))
				for k, a := range numbers {
					// Another number, its neighbour, and the same.
					for _, b := range []uint64{numbers[(k*7+3)%len(numbers)], a + 1, a, 2100 - uint64(imm)} {
						s := with(with(ready(here), regs{f[0]: a}), regs{f[1]: b})
						s.Tls = b
						held(t, fmt.Sprintf("word %x with %x, %x", w, a, b), s, m)
					}
				}
			}
		}
	}
}

// stirrer makes words and numbers of any kind.
type stirrer struct{ rng *rand.Rand }

// pick is a number of many.
func (r stirrer) pick() uint64 {
	switch r.rng.Intn(8) {
	case 0:
		return numbers[r.rng.Intn(len(numbers))]
	case 1:
		return r.rng.Uint64() >> r.rng.Intn(64)
	case 2:
		return top - uint64(r.rng.Intn(300))
	case 3:
		return 1024 + uint64(r.rng.Intn(64))*8
	}
	return 1000 + uint64(r.rng.Intn(2900))
}

// imm is a number that an Imm may be.
func (r stirrer) imm() int32 {
	switch r.rng.Intn(4) {
	case 0:
		return int32(r.rng.Uint32()) >> r.rng.Intn(32)
	case 1:
		return int32(r.rng.Intn(600) - 300)
	}
	return int32(r.rng.Intn(32)-12) * 8
}

// register is a register; mostly one of few, so that they meet.
func (r stirrer) register() int {
	if r.rng.Intn(4) == 0 {
		return r.rng.Intn(32)
	}
	return r.rng.Intn(6)
}

// word is an instruction of any kind, now and then none.
func (r stirrer) word(l []listed) uint64 {
	if r.rng.Intn(50) == 0 {
		return r.rng.Uint64() >> r.rng.Intn(64)
	}
	w := l[r.rng.Intn(len(l))].fits(r.register(), r.register(), r.register(), r.imm())
	if r.rng.Intn(100) == 0 {
		w ^= 1 << r.rng.Intn(64)
	}
	return w
}

// P14.1 to P14.3: long stirred runs are held against the chapter's words, step by step, in memory that may change under them.
func TestStirred(t *testing.T) {
	l := list()
	kinds, faults := map[int]int{}, map[api.Errno]int{}
	for seed := range int64(300) {
		r := stirrer{rand.New(rand.NewSource(seed))}
		m := memory(t, page(768, 6, false), page(1024, 7, false), page(1280, 7, true), page(1536, 5, false), page(2048, 6, true),
			page(2304, 4, false), page(2560, 2, false), page(2816, 6, false), page(3328, 1, false), page(top-256, 7, false))
		for addr := uint64(1024); addr < 1792; addr += 8 {
			good(t, "Poke", m.Poke(addr, binary.LittleEndian.AppendUint64(nil, r.word(l))))
		}
		s := State{Pc: 1024, Tls: r.pick()}
		for k := range s.Regs {
			s.Regs[k] = r.pick()
		}
		for range 150 {
			var o Outcome
			s, o = held(t, fmt.Sprint("run ", seed), s, m)
			kinds[o.Kind]++
			if o.Kind != Fault {
				continue
			}
			faults[o.Err]++
			s.Pc = 1024 + uint64(r.rng.Intn(96))*8
			s.Regs[r.register()] = r.pick()
		}
	}
	for k := range 4 {
		if kinds[k] < 500 {
			t.Error(kinds)
		}
	}
	for _, e := range []api.Errno{api.ErrArg, api.ErrMap, api.ErrProt, api.ErrCode, api.ErrDivide} {
		if faults[e] < 50 {
			t.Error(faults)
		}
	}
}

// Equal calls have equal results, and a copy of memory behind one leads to the same as the memory.
func TestEqualCalls(t *testing.T) {
	for _, text := range []string{"st8 1 2 0", "ld8 1 2 0", "div 1 2 3", "call 1 8", "trap 5", "sys"} {
		m := field(t, text)
		s := with(ready(here), regs{2: 2100})
		other := m.Copy()
		first, o := Step(s, m)
		steps(t, text, s, other, first, o, m.Pages())
	}
}
