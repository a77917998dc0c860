package isa

import (
	"math"
	"math/rand"
	"strconv"
	"strings"
	"testing"

	"dormouse/api"
)

// chapter are the operations as the document lists them: the number, the mnemonic, and the letters of the fields.
const chapter = `
1 nop -
2 mov ab
3 add abc
4 sub abc
5 mul abc
6 div abc
7 rem abc
8 and abc
9 or abc
10 xor abc
11 shl abc
12 shr abc
13 sar abc
14 slt abc
15 sltu abc
16 addi abi
17 movi ai
18 movhi ai
20 ld1 abi
21 ld2 abi
22 ld4 abi
23 ld8 abi
24 st1 abi
25 st2 abi
26 st4 abi
27 st8 abi
30 beq abi
31 bne abi
32 blt abi
33 bltu abi
34 jmp i
35 call ai
36 jr b
37 callr ab
38 lea ai
39 tls ai
40 sys -
41 trap i
`

// listed is one of them.
type listed struct {
	op   int
	name string
	uses string
}

// list are the operations of the chapter.
func list() []listed {
	var l []listed
	for _, line := range strings.Split(strings.TrimSpace(chapter), "\n") {
		parts := strings.Split(line, " ")
		op, _ := strconv.Atoi(parts[0])
		l = append(l, listed{op, parts[1], strings.Trim(parts[2], "-")})
	}
	return l
}

// has tells whether an operation uses the field of a letter.
func (o listed) has(letter byte) bool { return strings.IndexByte(o.uses, letter) >= 0 }

// with is an instruction with another number in the field of a letter.
func with(i Ins, letter byte, x int) Ins {
	switch letter {
	case 'a':
		i.A = x
	case 'b':
		i.B = x
	case 'c':
		i.C = x
	case 'i':
		i.Imm = int32(x)
	}
	return i
}

// of is the number in the field of a letter.
func of(i Ins, letter byte) int {
	switch letter {
	case 'a':
		return i.A
	case 'b':
		return i.B
	case 'c':
		return i.C
	}
	return int(i.Imm)
}

// registers are some numbers that A, B and C may be: the edges, and each bit alone.
func registers() []int { return []int{0, 1, 2, 4, 8, 9, 10, 16, 30, 31} }

// imms are some numbers that Imm may be.
func imms() []int {
	return []int{
		0, 1, -1, 2, -2, 9, 10, -9, -10, 31, 32, 127, 128, 255, 256, -256, 65535, 65536, 1000000000, -1000000000,
		0x12345678, -0x12345678, math.MaxInt32 - 1, math.MaxInt32, math.MinInt32 + 1, math.MinInt32,
	}
}

// may are some numbers that the field of a letter may be.
func may(letter byte) []int {
	if letter == 'i' {
		return imms()
	}
	return registers()
}

// some are valid instructions of an operation: each number of a field, with each of the others.
func some(o listed) []Ins {
	l := []Ins{{Op: o.op}}
	for _, letter := range []byte(o.uses) {
		var more []Ins
		for _, i := range l {
			for _, x := range may(letter) {
				more = append(more, with(i, letter, x))
			}
		}
		l = more
	}
	return l
}

// all are valid instructions of all operations.
func all() []Ins {
	var l []Ins
	for _, o := range list() {
		l = append(l, some(o)...)
	}
	return l
}

// plainWord is a valid instruction's word, as the sum that the document gives.
func plainWord(i Ins) uint64 {
	imm := uint64(i.Imm)
	if i.Imm < 0 {
		imm = uint64(4294967296 + int64(i.Imm))
	}
	return uint64(i.Op) + 256*uint64(i.A) + 8192*uint64(i.B) + 262144*uint64(i.C) + 4294967296*imm
}

// plainIns is the valid instruction of a word; false: there is none.
func plainIns(w uint64) (Ins, bool) {
	half := w / 4294967296
	imm := int64(half)
	if half >= 2147483648 {
		imm -= 4294967296
	}
	i := Ins{Op: int(w % 256), A: int(w / 256 % 32), B: int(w / 8192 % 32), C: int(w / 262144 % 32), Imm: int32(imm)}
	if w%4294967296/8388608 != 0 {
		return Ins{}, false
	}
	for _, o := range list() {
		if o.op != i.Op {
			continue
		}
		for _, letter := range []byte("abci") {
			if !o.has(letter) && of(i, letter) != 0 {
				return Ins{}, false
			}
		}
		return i, true
	}
	return Ins{}, false
}

// encodes fails the test unless Encode answers this word, and Decode the instruction of it.
func encodes(t *testing.T, i Ins, want uint64) {
	t.Helper()
	if w, e := Encode(i); w != want || e != api.OK {
		t.Fatalf("Encode of %v: %x, %d; want %x, 0", i, w, e, want)
	}
	if got, e := Decode(want); got != i || e != api.OK {
		t.Fatalf("Decode of %x: %v, %d; want %v, 0", want, got, e, i)
	}
}

// invalid fails the test unless Encode and Text answer ErrCode and nothing else.
func invalid(t *testing.T, i Ins) {
	t.Helper()
	if w, e := Encode(i); w != 0 || e != api.ErrCode {
		t.Fatalf("Encode of %v: %x, %d; want 0, %d", i, w, e, api.ErrCode)
	}
	if s, e := Text(i); s != "" || e != api.ErrCode {
		t.Fatalf("Text of %v: %q, %d; want nothing, %d", i, s, e, api.ErrCode)
	}
}

// noWord fails the test unless Decode answers ErrCode and nothing else.
func noWord(t *testing.T, w uint64) {
	t.Helper()
	if i, e := Decode(w); i != (Ins{}) || e != api.ErrCode {
		t.Fatalf("Decode of %x: %v, %d; want nothing, %d", w, i, e, api.ErrCode)
	}
}

// decodes fails the test unless Decode answers what the sum of the document asks for; it tells whether the word has an instruction.
func decodes(t *testing.T, w uint64) bool {
	t.Helper()
	want, there := plainIns(w)
	if !there {
		noWord(t, w)
		return false
	}
	encodes(t, want, w)
	return true
}

// The constants have the numbers that the chapter gives.
func TestConstants(t *testing.T) {
	l := []int{
		OpNop, OpMov, OpAdd, OpSub, OpMul, OpDiv, OpRem, OpAnd, OpOr, OpXor, OpShl, OpShr, OpSar, OpSlt, OpSltu, OpAddi, OpMovi, OpMovhi,
		OpLd1, OpLd2, OpLd4, OpLd8, OpSt1, OpSt2, OpSt4, OpSt8,
		OpBeq, OpBne, OpBlt, OpBltu, OpJmp, OpCall, OpJr, OpCallr, OpLea, OpTls, OpSys, OpTrap,
	}
	want := list()
	if len(l) != len(want) {
		t.Fatal(len(l), len(want))
	}
	for k, op := range l {
		if op != want[k].op {
			t.Errorf("%s is %d; want %d", want[k].name, op, want[k].op)
		}
	}
}

// P12.1: words written out by hand; the first is the chapter's example.
func TestWords(t *testing.T) {
	for _, c := range []struct {
		i Ins
		w uint64
	}{
		{Ins{OpAddi, 1, 2, 0, -1}, 0xffffffff00004110},
		{Ins{OpNop, 0, 0, 0, 0}, 1},
		{Ins{OpSys, 0, 0, 0, 0}, 40},
		{Ins{OpMov, 1, 0, 0, 0}, 0x102},
		{Ins{OpMov, 0, 1, 0, 0}, 0x2002},
		{Ins{OpMov, 31, 31, 0, 0}, 0x3ff02},
		{Ins{OpAdd, 0, 0, 1, 0}, 0x40003},
		{Ins{OpAdd, 31, 31, 31, 0}, 0x7fff03},
		{Ins{OpSltu, 31, 0, 31, 0}, 0x7c1f0f},
		{Ins{OpLd8, 3, 4, 0, 16}, 0x1000008317},
		{Ins{OpMovi, 0, 0, 0, math.MinInt32}, 0x8000000000000011},
		{Ins{OpMovhi, 31, 0, 0, math.MaxInt32}, 0x7fffffff00001f12},
		{Ins{OpJmp, 0, 0, 0, -8}, 0xfffffff800000022},
		{Ins{OpCall, 1, 0, 0, 0x01020304}, 0x0102030400000123},
		{Ins{OpJr, 0, 31, 0, 0}, 0x3e024},
		{Ins{OpTrap, 0, 0, 0, 1}, 0x100000029},
	} {
		encodes(t, c.i, c.w)
	}
}

// P12.1: each operation with the fields that it uses at their edges and between them, no matter what the others are.
func TestEachOperation(t *testing.T) {
	for _, o := range list() {
		for _, i := range some(o) {
			encodes(t, i, plainWord(i))
		}
	}
}

// P12.1: numbers that are no operation's.
func TestNoOperation(t *testing.T) {
	known := map[int]int{}
	for _, o := range list() {
		known[o.op]++
	}
	l := []int{math.MinInt, math.MaxInt, math.MinInt32, math.MaxInt32, math.MinInt64 + 1, 1<<32 + 1, 1<<32 + 40, -1<<32 + 1, -256 + 1}
	for op := -300; op < 1000; op++ {
		l = append(l, op)
	}
	told := 0
	for _, op := range l {
		if known[op] > 0 {
			continue
		}
		told++
		invalid(t, Ins{Op: op})
		for _, letter := range []byte("abci") {
			invalid(t, with(Ins{Op: op}, letter, 1))
		}
		if 0 <= op && op < 256 {
			noWord(t, uint64(op))
			noWord(t, uint64(op)+256)
			noWord(t, uint64(op)+4294967296)
		}
	}
	if told != len(l)-38 {
		t.Error(told)
	}
	invalid(t, Ins{})
	noWord(t, 0)
}

// P12.1: a field A, B or C that is used, below 0 and above 31, is wrong whatever the others are.
func TestOutside(t *testing.T) {
	outside := []int{-1, -2, -31, -32, 32, 33, 63, 64, 255, 256, 1 << 31, 1 << 32, 1<<32 + 1, -1 << 32, -1 << 31, math.MinInt, math.MaxInt}
	for _, o := range list() {
		for _, letter := range []byte("abc") {
			if !o.has(letter) {
				continue
			}
			for _, i := range some(o) {
				for _, x := range outside {
					invalid(t, with(i, letter, x))
				}
			}
		}
	}
}

// P12.1: a field that is not used has to be 0, Imm too.
func TestUnused(t *testing.T) {
	others := []int{1, -1, 2, 31, 32, 255, 256, math.MaxInt32, math.MinInt32}
	told := 0
	for _, o := range list() {
		for _, letter := range []byte("abci") {
			if o.has(letter) {
				continue
			}
			for _, i := range some(o) {
				for _, x := range others {
					told++
					wrong := with(i, letter, x)
					invalid(t, wrong)
					if letter == 'i' || 0 <= x && x <= 31 {
						noWord(t, plainWord(wrong))
					}
				}
			}
			if letter != 'i' {
				invalid(t, with(Ins{Op: o.op}, letter, 1<<32))
				invalid(t, with(Ins{Op: o.op}, letter, math.MinInt))
			}
		}
	}
	if told == 0 {
		t.Error("no field was without use")
	}
}

// P12.1: bits 23 to 31 of a word, where nothing stands, have to be 0.
func TestNothingThere(t *testing.T) {
	for _, i := range all() {
		w := plainWord(i)
		for bit := 23; bit < 32; bit++ {
			noWord(t, w|1<<bit)
		}
		noWord(t, w|0xff800000)
	}
}

// P12.1: words with each bit alone, and valid ones with each of their bits turned.
func TestEachBit(t *testing.T) {
	for bit := range 64 {
		decodes(t, 1<<bit)
		decodes(t, ^(1 << bit))
	}
	there := 0
	for _, o := range list() {
		for _, i := range []Ins{{Op: o.op}, some(o)[len(some(o))-1], some(o)[len(some(o))/2]} {
			for bit := range 64 {
				if decodes(t, plainWord(i)^1<<bit) {
					there++
				}
			}
		}
	}
	if there < 1000 {
		t.Errorf("only %d of the words had an instruction", there)
	}
}

// P12.1: each number in the byte of Op, with bits of each field set or not.
func TestDecodeEachOp(t *testing.T) {
	for op := range uint64(256) {
		for _, rest := range []uint64{0, 1 << 8, 31 << 8, 1 << 13, 31 << 13, 1 << 18, 31 << 18, 1023 << 8, 32767 << 8, 1 << 23, 1 << 31, 1 << 32, 1 << 63, 1<<32 + 1<<8, 1<<32 + 1<<13, 1<<32 + 1023<<8, 1<<32 + 32767<<8} {
			decodes(t, op+rest)
		}
	}
	noWord(t, math.MaxUint64)
}

// P12.1: words of any kind, half of them with few bits set, so that many of them have an instruction.
func TestDecodeAnyWords(t *testing.T) {
	r := rand.New(rand.NewSource(1))
	there := 0
	for k := range 60000 {
		w := r.Uint64()
		if k%2 == 0 {
			w &= r.Uint64() & r.Uint64() & 0xffffffff007fffff
		}
		if k%4 == 0 {
			w &= 0xffffffff00000000 | 0x3ffff
		}
		if decodes(t, w) {
			there++
		}
	}
	if there < 1000 {
		t.Errorf("only %d of the words had an instruction", there)
	}
}

// P12.4: Decode of what Encode returned, and Parse of what Text returned, for all numbers of registers.
func TestThereAndBack(t *testing.T) {
	for _, o := range list() {
		seen := map[uint64]Ins{}
		for k := range 32 * 32 * 32 {
			i := Ins{Op: o.op}
			for at, letter := range []byte("abc") {
				if o.has(letter) {
					i = with(i, letter, k>>(5*at)&31)
				}
			}
			if o.has('i') {
				i.Imm = int32(uint32(k) * 2654435761)
			}
			w, e := Encode(i)
			if back, f := Decode(w); e != api.OK || f != api.OK || back != i {
				t.Fatal(i, w, e, back, f)
			}
			if before, there := seen[w]; there && before != i {
				t.Fatalf("%v and %v have the word %x", before, i, w)
			}
			seen[w] = i
			s, e := Text(i)
			if back, f := Parse(s); e != api.OK || f != api.OK || back != i {
				t.Fatal(i, s, e, back, f)
			}
		}
	}
}

// P12.4: the same at the edges of all fields.
func TestThereAndBackAtEdges(t *testing.T) {
	for _, i := range all() {
		w, e := Encode(i)
		if back, f := Decode(w); e != api.OK || f != api.OK || back != i {
			t.Fatal(i, w, e, back, f)
		}
		s, e := Text(i)
		if back, f := Parse(s); e != api.OK || f != api.OK || back != i {
			t.Fatal(i, s, e, back, f)
		}
	}
}
