package image

import (
	"bytes"
	"encoding/binary"
	"fmt"
	"math"
	"math/bits"
	"slices"
	"strings"
	"testing"

	"dormouse/api"
	"dormouse/head"
)

// last is the greatest number of 64 bits.
const last = uint64(math.MaxUint64)

// maxFile is how many bytes a file may have.
const maxFile = 65536

var little = binary.LittleEndian

// num is the number of n bytes at a place.
func num(b []byte, at uint64, n int) uint64 {
	x := uint64(0)
	for i := n - 1; i >= 0; i-- {
		x = x<<8 | uint64(b[at+uint64(i)])
	}
	return x
}

// le are numbers, of n bytes each.
func le(n int, l ...uint64) []byte {
	var b []byte
	for _, x := range l {
		for i := range n {
			b = append(b, byte(x>>(8*i)))
		}
	}
	return b
}

// plainHead are the bytes of a header.
func plainHead(kind, entry, segs, count uint64) []byte {
	return slices.Concat([]byte{127, 'E', 'L', 'F', 2, 1, 1}, make([]byte, 9), le(2, kind, 19823), le(4, 1),
		le(8, entry, segs, 0), le(4, 0), le(2, 64, 56, count, 0, 0, 0))
}

// plainSeg are the bytes of a segment.
func plainSeg(s api.Seg) []byte {
	return slices.Concat(le(4, uint64(s.Type), uint64(s.Flags)), le(8, s.Off, s.Vaddr, s.Vaddr, s.File, s.Mem, s.Align))
}

// plainSym are the bytes of a symbol.
func plainSym(s api.Sym) []byte {
	return slices.Concat(le(4, uint64(s.Name)), le(1, uint64(s.Info), uint64(s.Other)), le(2, uint64(s.Sect)), le(8, s.Value, s.Size))
}

// plainRela are the bytes of a relocation.
func plainRela(r api.Rela) []byte {
	return le(8, r.Off, uint64(r.Type)+uint64(r.Sym)<<32, uint64(r.Add))
}

// within tells whether all n indices from q on are among the m from p on; the ends are exact.
func within(p, m, q, n uint64) bool {
	low, high := bits.Add64(p, m, 0)
	end, over := bits.Add64(q, n, 0)
	return n == 0 || q >= p && (over < high || over == high && end <= low)
}

// reckoned is what Parse should answer, by the six steps alone.
func reckoned(b []byte) (Image, api.Errno) {
	x := Image{Bytes: b}
	for _, step := range []func(*Image) api.Errno{reckonHead, reckonSegs, reckonDynamic, reckonMemory, reckonValues} {
		if e := step(&x); e != api.OK {
			return Image{}, e
		}
	}
	return x, api.OK
}

// reckonHead are the first two steps.
func reckonHead(x *Image) api.Errno {
	b := x.Bytes
	if len(b) > maxFile {
		return api.ErrSize
	}
	if len(b) < 64 {
		return api.ErrRange
	}
	kind, entry, at, count := num(b, 16, 2), num(b, 24, 8), num(b, 32, 8), num(b, 56, 2)
	if !bytes.Equal(b[:64], plainHead(kind, entry, at, count)) || kind != 2 && kind != 3 || count > 64 {
		return api.ErrForm
	}
	x.Head = head.Head{Kind: int(kind), Entry: entry, Segs: at, Count: int(count)}
	return api.OK
}

// reckonSegs is the third step.
func reckonSegs(x *Image) api.Errno {
	b, n := x.Bytes, uint64(x.Head.Count)
	if x.Head.Segs > uint64(len(b)) || !within(0, uint64(len(b)), x.Head.Segs, 56*n) {
		return api.ErrRange
	}
	for i := range n {
		at := x.Head.Segs + 56*i
		if num(b, at+16, 8) != num(b, at+24, 8) {
			return api.ErrForm
		}
		x.Segs = append(x.Segs, api.Seg{Type: uint32(num(b, at, 4)), Flags: uint32(num(b, at+4, 4)), Off: num(b, at+8, 8),
			Vaddr: num(b, at+16, 8), File: num(b, at+32, 8), Mem: num(b, at+40, 8), Align: num(b, at+48, 8)})
	}
	for i, s := range x.Segs {
		if e := reckonSeg(x, i, s); e != api.OK {
			return e
		}
	}
	loads := 0
	for _, s := range x.Segs {
		if s.Type == 1 {
			loads++
		}
		if s.Type != 2 && s.Type != 7 || s.File == 0 {
			continue
		}
		if !slices.ContainsFunc(x.Segs, func(l api.Seg) bool {
			return l.Type == 1 && within(l.Off, l.File, s.Off, s.File) && l.Vaddr-l.Off == s.Vaddr-s.Off
		}) {
			return api.ErrForm
		}
	}
	if loads == 0 {
		return api.ErrForm
	}
	return api.OK
}

// reckonSeg is what is wrong with one segment, given those ahead of it.
func reckonSeg(x *Image, i int, s api.Seg) api.Errno {
	switch {
	case !slices.Contains([]uint32{0, 1, 2, 4, 7}, s.Type) || s.Flags > 7:
		return api.ErrForm
	case s.Type == 0:
		return api.OK
	case s.Off > uint64(len(x.Bytes)) || !within(0, uint64(len(x.Bytes)), s.Off, s.File):
		return api.ErrRange
	case s.Mem < s.File:
		return api.ErrForm
	case s.Vaddr > 1<<32 || !within(0, 1<<32, s.Vaddr, s.Mem):
		return api.ErrSize
	case s.Type == 1 && ((s.Vaddr-s.Off)%256 != 0 || s.Mem == 0):
		return api.ErrForm
	}
	for j := i - 1; j >= 0; j-- {
		before := x.Segs[j]
		if before.Type != s.Type {
			continue
		}
		if s.Type == 2 || s.Type == 7 || s.Type == 1 && s.Vaddr/256 < (before.Vaddr+before.Mem+255)/256 {
			return api.ErrOver
		}
		if s.Type == 1 {
			break
		}
	}
	return api.OK
}

// there is the place in the file of so many bytes at an address; false: it has none.
func there(x *Image, addr, size uint64) (uint64, bool) {
	for _, s := range x.Segs {
		if s.Type == 1 && size > 0 && within(s.Vaddr, s.File, addr, size) {
			return s.Off + (addr - s.Vaddr), true
		}
	}
	return 0, false
}

// nameAt is the name at a place of a table of names.
func nameAt(table []byte, at uint64) (string, api.Errno) {
	if at >= uint64(len(table)) {
		return "", api.ErrRange
	}
	name, _, _ := strings.Cut(string(table[at:]), "\x00")
	return name, api.OK
}

// reckonEntries are the dynamic entries' values by their tags.
func reckonEntries(b []byte) (map[uint64][]uint64, api.Errno) {
	l := map[uint64][]uint64{}
	for at := uint64(0); ; at += 16 {
		if at+16 > uint64(len(b)) {
			return nil, api.ErrRange
		}
		tag, value := num(b, at, 8), num(b, at+8, 8)
		if tag == 0 {
			break
		}
		if !slices.Contains([]uint64{1, 5, 6, 7, 8, 10, 14, 0x6000000d}, tag) {
			return nil, api.ErrForm
		}
		if tag != 1 && len(l[tag]) > 0 {
			return nil, api.ErrOver
		}
		l[tag] = append(l[tag], value)
	}
	if len(l[5]) == 0 || len(l[10]) == 0 || len(l[6]) != len(l[0x6000000d]) || len(l[7]) != len(l[8]) {
		return nil, api.ErrForm
	}
	for _, tag := range []uint64{5, 6, 7, 8, 10, 14, 0x6000000d} {
		l[tag] = append(l[tag], 0)
	}
	return l, api.OK
}

// reckonDynamic is the fourth step.
func reckonDynamic(x *Image) api.Errno {
	i := slices.IndexFunc(x.Segs, func(s api.Seg) bool { return s.Type == 2 })
	if i < 0 {
		return api.OK
	}
	l, e := reckonEntries(x.Bytes[x.Segs[i].Off:][:x.Segs[i].File])
	if e != api.OK {
		return e
	}
	at, ok := there(x, l[5][0], l[10][0])
	if !ok {
		return api.ErrMap
	}
	table := x.Bytes[at:][:l[10][0]]
	if table[0] != 0 || table[len(table)-1] != 0 {
		return api.ErrForm
	}
	if l[14][0] != 0 {
		if x.Soname, e = nameAt(table, l[14][0]); e != api.OK {
			return e
		}
	}
	for _, at := range l[1] {
		name, e := nameAt(table, at)
		if e != api.OK {
			return e
		}
		if name == "" {
			return api.ErrForm
		}
		x.Needed = append(x.Needed, name)
	}
	if e := reckonSyms(x, table, l[6][0], l[0x6000000d][0]); e != api.OK {
		return e
	}
	return reckonRelas(x, l[7][0], l[8][0])
}

// reckonSyms is what the fourth step says of symbols.
func reckonSyms(x *Image, table []byte, addr, n uint64) api.Errno {
	if n == 0 {
		return api.OK
	}
	if n > 1024 {
		return api.ErrSize
	}
	at, ok := there(x, addr, 24*n)
	if !ok {
		return api.ErrMap
	}
	for i := range n {
		b := x.Bytes[at+24*i:][:24]
		s := api.Sym{Name: little.Uint32(b), Info: b[4], Other: b[5], Sect: little.Uint16(b[6:]), Value: little.Uint64(b[8:]), Size: little.Uint64(b[16:])}
		fits := slices.Contains([]byte{0, 1, 2, 6}, s.Info%16) && s.Info/16 <= 2 && s.Other == 0 && s.Sect <= 1 && s.Name != 0
		if s.Sect == 0 && (s.Value != 0 || s.Size != 0 || s.Info < 16) {
			fits = false
		}
		if i == 0 {
			fits = s == api.Sym{}
		}
		if !fits {
			return api.ErrForm
		}
		x.Syms = append(x.Syms, s)
	}
	for _, s := range x.Syms {
		name, e := nameAt(table, uint64(s.Name))
		if e != api.OK {
			return e
		}
		x.Names = append(x.Names, name)
	}
	return api.OK
}

// reckonRelas is what the fourth step says of relocations.
func reckonRelas(x *Image, addr, size uint64) api.Errno {
	if size == 0 {
		return api.OK
	}
	if size > maxFile {
		return api.ErrSize
	}
	at, ok := there(x, addr, size)
	if !ok {
		return api.ErrMap
	}
	if size%24 != 0 {
		return api.ErrRange
	}
	for i := range size / 24 {
		b := x.Bytes[at+24*i:]
		r := api.Rela{Off: little.Uint64(b), Type: little.Uint32(b[8:]), Sym: little.Uint32(b[12:]), Add: int64(little.Uint64(b[16:]))}
		switch {
		case !slices.Contains([]uint32{0, 1, 6, 7, 8, 16, 17, 18}, r.Type):
			return api.ErrReloc
		case r.Sym != 0 && int(r.Sym) >= len(x.Syms):
			return api.ErrRange
		case (r.Sym == 0) != (r.Type == 0 || r.Type == 8):
			return api.ErrForm
		}
		x.Relas = append(x.Relas, r)
	}
	return api.OK
}

// reckonMemory is the fifth step.
func reckonMemory(x *Image) api.Errno {
	for _, r := range x.Relas {
		if r.Type != 0 && !slices.ContainsFunc(x.Segs, func(s api.Seg) bool { return s.Type == 1 && within(s.Vaddr, s.Mem, r.Off, 8) }) {
			return api.ErrMap
		}
	}
	return api.OK
}

// reckonValues is the sixth step.
func reckonValues(x *Image) api.Errno {
	for _, s := range x.Syms {
		switch {
		case s.Sect == 0:
		case s.Info%16 == 6:
			if !slices.ContainsFunc(x.Segs, func(t api.Seg) bool { return t.Type == 7 && s.Value <= t.Mem }) {
				return api.ErrForm
			}
		case s.Value > 1<<32:
			return api.ErrSize
		}
	}
	return api.OK
}

// equal tells whether two images are.
func equal(a, b Image) bool {
	return a.Head == b.Head && slices.Equal(a.Segs, b.Segs) && a.Soname == b.Soname && slices.Equal(a.Needed, b.Needed) &&
		slices.Equal(a.Names, b.Names) && slices.Equal(a.Syms, b.Syms) && slices.Equal(a.Relas, b.Relas) && bytes.Equal(a.Bytes, b.Bytes)
}

// copied is an image in new memory.
func copied(x Image) Image {
	x.Segs, x.Needed, x.Names = slices.Clone(x.Segs), slices.Clone(x.Needed), slices.Clone(x.Names)
	x.Syms, x.Relas, x.Bytes = slices.Clone(x.Syms), slices.Clone(x.Relas), bytes.Clone(x.Bytes)
	return x
}

// short is what a failure tells of something that may be great.
func short(x any) string {
	text := fmt.Sprintf("%+v", x)
	return text[:min(1000, len(text))]
}

// parses fails the test unless Parse answers this, and leaves the bytes as they are.
func parses(t *testing.T, file []byte, want Image, err api.Errno) {
	t.Helper()
	kept := bytes.Clone(file)
	if x, e := Parse(file); !equal(x, want) || e != err {
		t.Fatalf("Parse of %d bytes: %s, %d; want %s, %d", len(file), short(x), e, short(want), err)
	}
	if !bytes.Equal(file, kept) {
		t.Fatalf("Parse changed its bytes")
	}
}

// fails fails the test unless Parse answers this error, as the reckoning does too, and nothing beside it.
func fails(t *testing.T, file []byte, err api.Errno) {
	t.Helper()
	if _, e := reckoned(file); e != err {
		t.Fatalf("the reckoning tells %d; want %d", e, err)
	}
	parses(t, file, Image{}, err)
}

// asReckoned fails the test unless Parse answers what the reckoning does, and tells whether that is an image.
func asReckoned(t *testing.T, file []byte) bool {
	t.Helper()
	want, e := reckoned(file)
	parses(t, file, want, e)
	return e == api.OK
}

// copiedSpec is a Spec in new memory.
func copiedSpec(s Spec) Spec {
	s.Needed, s.Defs, s.Fixes = slices.Clone(s.Needed), slices.Clone(s.Defs), slices.Clone(s.Fixes)
	s.Code, s.Data, s.Tls = bytes.Clone(s.Code), bytes.Clone(s.Data), bytes.Clone(s.Tls)
	return s
}

// equalSpec tells whether two Specs are.
func equalSpec(a, b Spec) bool {
	return a.Kind == b.Kind && a.Soname == b.Soname && slices.Equal(a.Needed, b.Needed) && a.Entry == b.Entry &&
		bytes.Equal(a.Code, b.Code) && bytes.Equal(a.Data, b.Data) && a.Bss == b.Bss && bytes.Equal(a.Tls, b.Tls) &&
		a.TlsBss == b.TlsBss && slices.Equal(a.Defs, b.Defs) && slices.Equal(a.Fixes, b.Fixes)
}

// builds fails the test unless Build answers this, and leaves the Spec as it is.
func builds(t *testing.T, s Spec, want []byte, err api.Errno) {
	t.Helper()
	kept := copiedSpec(s)
	b, e := Build(s)
	if e != err {
		t.Fatalf("Build of %s: error %d; want %d", short(s), e, err)
	}
	if !bytes.Equal(b, want) {
		i := 0
		for i < min(len(b), len(want)) && b[i] == want[i] {
			i++
		}
		t.Fatalf("Build of %s: %d bytes, want %d; first different at %d", short(s), len(b), len(want), i)
	}
	if !equalSpec(s, kept) {
		t.Fatalf("Build changed its Spec from %s to %s", short(kept), short(s))
	}
}

// built is the file of a Spec that has one.
func built(t *testing.T, s Spec) []byte {
	t.Helper()
	b, e := Build(s)
	if e != api.OK {
		t.Fatalf("Build of %s: error %d", short(s), e)
	}
	return b
}

// full is a Spec with all there is.
func full() Spec {
	return Spec{
		Kind: head.Exe, Soname: "me", Needed: []string{"libm", "c"}, Entry: 4,
		Code: bytes.Repeat([]byte{1, 2, 3, 4}, 10), Data: bytes.Repeat([]byte{5, 6, 7}, 9), Bss: 300, Tls: []byte{8, 9, 10}, TlsBss: 20,
		Defs:  []Def{{"f", Code, 8, false}, {"v", Data, 16, true}, {"t", Local, 23, false}, {"u", Nowhere, 99, true}, {"c", Nowhere, 0, false}},
		Fixes: []Fix{{Data, 0, 1, 0, -5}, {Code, 32, 8, -1, 7}, {Data, 19, 17, 2, 1}, {Data, 8, 6, 4, 0}, {Code, 1 << 40, 0, -9, 3}},
	}
}
