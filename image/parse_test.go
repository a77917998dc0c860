package image

import (
	"bytes"
	"math"
	"slices"
	"testing"

	"dormouse/api"
	"dormouse/head"
)

// raw is what a file is made of whose parts stand at places of their own.
type raw struct {
	kind, entry, segsAt, count uint64
	segs                       []api.Seg
	entries                    []uint64 // tags and values
	table                      []byte
	syms                       []api.Sym
	relas                      []api.Rela
	size                       int
	late                       func(file []byte) // a fault that no field tells
}

// Where the parts stand; addresses are others.
const (
	entriesAt = 1024
	tableAt   = 1536
	symsAt    = 1792
	relasAt   = 2304
	codeAt    = 2816
	dataAt    = 3072
	rawSize   = 4096
)

// The segments of a raw file.
const (
	front = iota
	nothing
	note
	code
	data
	entriesSeg
	tls
)

// rawNames are those of a raw file: they stand at 1, 6, 8, 11, 13, 15, 17 and 19 of 21 bytes.
const rawNames = "\x00libm\x00c\x00me\x00f\x00g\x00v\x00t\x00w\x00"

// Where the values of the dynamic entries stand among tags and values.
const (
	neededFirst = 1 + 2*iota
	neededSecond
	sonameValue
	strtabValue
	strszValue
	symtabValue
	symnumValue
	relaValue
	relaszValue
)

// whole is a raw file without a fault.
func whole() *raw {
	return &raw{
		kind: 3, entry: 0x3004, segsAt: 64, count: 7, size: rawSize,
		segs: []api.Seg{
			front:      {Type: 1, Flags: 4, Off: 0, Vaddr: 0x1000, File: 2816, Mem: 2816, Align: 256},
			nothing:    {Type: 0, Off: last, Vaddr: last, File: last, Mem: 1},
			note:       {Type: 4, Off: 5, Vaddr: 0x3003, File: 7, Mem: 7},
			code:       {Type: 1, Flags: 5, Off: codeAt, Vaddr: 0x3000, File: 200, Mem: 250, Align: 256},
			data:       {Type: 1, Flags: 6, Off: dataAt, Vaddr: 0x5000, File: 300, Mem: 1000},
			entriesSeg: {Type: 2, Flags: 4, Off: entriesAt, Vaddr: 0x1000 + entriesAt, File: 256, Mem: 256, Align: 8},
			tls:        {Type: 7, Flags: 4, Off: dataAt + 256, Vaddr: 0x5100, File: 44, Mem: 100, Align: 8},
		},
		entries: []uint64{
			1, 1, 1, 6, 14, 8, 5, 0x1000 + tableAt, 10, uint64(len(rawNames)), 6, 0x1000 + symsAt, 0x6000000d, 6, 7, 0x1000 + relasAt, 8, 192, 0, 0,
		},
		table: []byte(rawNames),
		syms: []api.Sym{
			{},
			{Name: 11, Info: 18, Sect: 1, Value: 0x2004, Size: 9},
			{Name: 13, Info: 16},
			{Name: 15, Info: 33, Sect: 1, Value: 77},
			{Name: 17, Info: 22, Sect: 1, Value: 100},
			{Name: 19, Info: 0, Sect: 1, Value: 1 << 32},
		},
		relas: []api.Rela{
			{Off: last, Type: 0, Add: 5},
			{Off: 0x5000, Type: 8, Add: -5},
			{Off: 0x5000 + 992, Type: 1, Sym: 1, Add: math.MinInt64},
			{Off: 0x3000, Type: 6, Sym: 2},
			{Off: 0x3000 + 242, Type: 7, Sym: 5, Add: math.MaxInt64},
			{Off: 0x1000, Type: 16, Sym: 4},
			{Off: 0x1000 + 2808, Type: 17, Sym: 4, Add: 1},
			{Off: 0x5003, Type: 18, Sym: 4},
		},
	}
}

// file are the bytes.
func (r *raw) file() []byte {
	b := make([]byte, max(r.size, rawSize))
	copy(b, plainHead(r.kind, r.entry, r.segsAt, r.count))
	at := 64
	for _, s := range r.segs {
		at += copy(b[at:], plainSeg(s))
	}
	copy(b[entriesAt:], le(8, r.entries...))
	copy(b[tableAt:], r.table)
	at = symsAt
	for _, s := range r.syms {
		at += copy(b[at:], plainSym(s))
	}
	at = relasAt
	for _, x := range r.relas {
		at += copy(b[at:], plainRela(x))
	}
	if r.late != nil {
		r.late(b)
	}
	return b[:r.size]
}

// image is what Parse should answer.
func (r *raw) image() Image {
	return Image{
		Head: head.Head{Kind: int(r.kind), Entry: r.entry, Segs: r.segsAt, Count: int(r.count)}, Segs: r.segs[:r.count],
		Soname: "me", Needed: []string{"libm", "c"}, Names: []string{"", "f", "g", "v", "t", "w"}, Syms: r.syms, Relas: r.relas, Bytes: r.file(),
	}
}

// with is a raw file with a change.
func with(change func(r *raw)) *raw {
	r := whole()
	change(r)
	return r
}

// accepts fails the test unless Parse answers this, as the reckoning does.
func accepts(t *testing.T, file []byte, want Image) {
	t.Helper()
	if x, e := reckoned(file); !equal(x, want) || e != api.OK {
		t.Fatalf("the reckoning tells %s, %d; want %s", short(x), e, short(want))
	}
	parses(t, file, want, api.OK)
}

// P9.1: a file with all there is, of which each part is told.
func TestParse(t *testing.T) {
	for _, kind := range []uint64{2, 3} {
		r := with(func(r *raw) { r.kind = kind })
		accepts(t, r.file(), r.image())
	}
}

// P9.1: no bytes, few, and those of a header alone.
func TestParseFew(t *testing.T) {
	fails(t, nil, api.ErrRange)
	fails(t, []byte{}, api.ErrRange)
	fails(t, []byte{127}, api.ErrRange)
	fails(t, make([]byte, 63), api.ErrRange)
	fails(t, make([]byte, 64), api.ErrForm)
	fails(t, plainHead(3, 0, 0, 0), api.ErrForm)   // no SegLoad
	fails(t, plainHead(3, 0, 64, 0), api.ErrForm)  // no SegLoad
	fails(t, plainHead(3, 0, 65, 0), api.ErrRange) // no such place
	fails(t, plainHead(3, 0, last, 0), api.ErrRange)
	fails(t, plainHead(3, 0, 64, 1), api.ErrRange)
	fails(t, plainHead(3, 0, last, 64), api.ErrRange)
	fails(t, plainHead(3, 0, 0, 1), api.ErrForm) // the header isn't a segment
	fails(t, plainHead(4, 0, 64, 0), api.ErrForm)
	fails(t, plainHead(1, 0, 64, 0), api.ErrForm)
	fails(t, plainHead(3, 0, 64, 65), api.ErrForm)
}

// P9.1: 65536 bytes, and one more.
func TestParseGreat(t *testing.T) {
	r := with(func(r *raw) { r.size = maxFile })
	accepts(t, r.file(), r.image())
	r.size++
	fails(t, r.file(), api.ErrSize)
	fails(t, make([]byte, maxFile), api.ErrForm)
	fails(t, make([]byte, maxFile+1), api.ErrSize)
	fails(t, make([]byte, 1<<20), api.ErrSize)
}

// fault is what may be wrong with a file.
type fault struct {
	what   string
	about  string // no two faults about the same can be in one file
	err    api.Errno
	change func(r *raw)
}

// entry is a fault of a dynamic entry's value.
func entry(what, about string, err api.Errno, at int, value uint64) fault {
	return fault{what, about, err, func(r *raw) { r.entries[at] = value }}
}

// ofHead are faults of the first three steps, in the order in which they are told.
func ofHead() []fault {
	return []fault{
		{"a byte too many", "size", api.ErrSize, func(r *raw) { r.size = maxFile + 1 }},
		{"a byte too few", "size", api.ErrRange, func(r *raw) { r.size = 63 }},
		{"another magic", "magic", api.ErrForm, func(r *raw) { was := r.late; r.late = func(b []byte) { first(was, b); b[1] = 'e' } }},
		{"a snapshot", "kind", api.ErrForm, func(r *raw) { r.kind = 4 }},
		{"segments behind the end", "table", api.ErrRange, func(r *raw) { r.segsAt = rawSize - 55 }},
		{"two addresses of a segment", "address", api.ErrForm, func(r *raw) {
			was := r.late
			r.late = func(b []byte) { first(was, b); b[64+56*note+24]++ }
		}},
		{"unknown flags", "front", api.ErrForm, func(r *raw) { r.segs[front].Flags = 8 }},
		{"a note behind the end", "note", api.ErrRange, func(r *raw) { r.segs[note].File = rawSize - 4 }},
		{"code over the front", "code", api.ErrOver, func(r *raw) { r.segs[code].Vaddr = 0x1a00 }},
		{"data above the top", "data", api.ErrSize, func(r *raw) { r.segs[data].Vaddr = 1<<32 - 512 }},
		{"two of kind SegDynamic", "tls", api.ErrOver, func(r *raw) { r.segs[tls].Type = 2 }},
		{"entries that aren't loaded", "entries", api.ErrForm, func(r *raw) { r.segs[entriesSeg].Vaddr++ }},
	}
}

// first does what was to be done before, if there was anything.
func first(was func(b []byte), b []byte) {
	if was != nil {
		was(b)
	}
}

// ofEntries are faults of the fourth step up to the names, in the order in which they are told.
func ofEntries() []fault {
	return []fault{
		{"an unknown tag", "entries", api.ErrForm, func(r *raw) { r.entries[0] = 2 }},
		{"a name twice", "second needed", api.ErrOver, func(r *raw) { r.entries[2] = 14 }},
		{"no end", "end", api.ErrRange, func(r *raw) { r.segs[entriesSeg].File = 16 * 9 }},
		{"no size of relocations", "size tag", api.ErrForm, func(r *raw) { r.entries[16] = 1 }},
		entry("a table that isn't loaded", "table of names", api.ErrMap, strtabValue, 0x900),
		entry("a table without bytes", "size of names", api.ErrMap, strszValue, 0),
		{"a table with another begin", "first name", api.ErrForm, func(r *raw) { r.table[0] = 'x' }},
		{"a table with another end", "last name", api.ErrForm, func(r *raw) { r.table[len(r.table)-1] = 'x' }},
		entry("a name behind the table", "soname", api.ErrRange, sonameValue, uint64(len(rawNames))),
		entry("something needed behind the table", "first needed", api.ErrRange, neededFirst, last),
		entry("something needed without a name", "second needed", api.ErrForm, neededSecond, 0),
	}
}

// ofSyms are faults of the fourth step in symbols and relocations, in the order in which they are told.
func ofSyms() []fault {
	return []fault{
		entry("too many symbols", "symbols", api.ErrSize, symnumValue, 1025),
		entry("symbols that aren't loaded", "table of symbols", api.ErrMap, symtabValue, 0x1000+2816-143),
		{"a first symbol", "first symbol", api.ErrForm, func(r *raw) { r.syms[0].Size = 1 }},
		{"another kind of symbol", "third symbol", api.ErrForm, func(r *raw) { r.syms[3].Info = 35 }},
		{"a symbol behind the table", "second symbol", api.ErrRange, func(r *raw) { r.syms[2].Name = uint32(len(rawNames)) }},
		entry("too many relocations", "relocations", api.ErrSize, relaszValue, maxFile+1),
		entry("relocations that aren't loaded", "table of relocations", api.ErrMap, relaValue, 0x1000+2816-190),
		entry("a piece of a relocation", "relocations", api.ErrRange, relaszValue, 191),
		{"another type of relocation", "fourth relocation", api.ErrReloc, func(r *raw) { r.relas[3].Type = 2 }},
		{"a relocation's symbol that isn't there", "fifth relocation", api.ErrRange, func(r *raw) { r.relas[4].Sym = 6 }},
		{"a relocation without a symbol", "sixth relocation", api.ErrForm, func(r *raw) { r.relas[5].Sym = 0 }},
	}
}

// ofWhole are faults of the last two steps, in the order in which they are told.
func ofWhole() []fault {
	return []fault{
		{"a relocation outside", "third relocation", api.ErrMap, func(r *raw) { r.relas[2].Off++ }},
		{"a value above a thread's block", "fourth symbol", api.ErrForm, func(r *raw) { r.syms[4].Value = 101 }},
		{"a value above the top", "fifth symbol", api.ErrSize, func(r *raw) { r.syms[5].Value++ }},
	}
}

// faults are those of all steps.
func faults() []fault {
	return slices.Concat(ofHead(), ofEntries(), ofSyms(), ofWhole())
}

// P9.1: each error of each step alone.
func TestParseFault(t *testing.T) {
	for _, f := range faults() {
		t.Run(f.what, func(t *testing.T) { fails(t, with(f.change).file(), f.err) })
	}
}

// P9.1: of two faults the one is told that comes first, in two steps and within one.
func TestParseTwoFaults(t *testing.T) {
	l := faults()
	for i, f := range l {
		for _, g := range l[i+1:] {
			if f.about == g.about || f.err == g.err {
				continue
			}
			t.Run(f.what+" and "+g.what, func(t *testing.T) {
				r := with(f.change)
				g.change(r)
				fails(t, r.file(), f.err)
			})
		}
	}
}

// P9.1: which kinds there may be.
func TestParseKinds(t *testing.T) {
	for kind := range uint64(300) {
		r := with(func(r *raw) { r.kind = kind })
		if kind == 2 || kind == 3 {
			accepts(t, r.file(), r.image())
			continue
		}
		fails(t, r.file(), api.ErrForm)
	}
}

// P9.1: no segment, none that is loaded, and those that are loaded alone.
func TestParseSegs(t *testing.T) {
	fails(t, with(func(r *raw) { r.count = 0 }).file(), api.ErrForm)
	fails(t, with(func(r *raw) { r.count, r.segsAt = 0, rawSize }).file(), api.ErrForm)
	fails(t, with(func(r *raw) { r.count, r.segsAt = 0, rawSize+1 }).file(), api.ErrRange)
	fails(t, with(func(r *raw) { r.segs = []api.Seg{{}, {Type: 4}, {Type: 7, Mem: 5}, {Type: 2}}; r.count = 4 }).file(), api.ErrForm)
	fails(t, with(func(r *raw) { r.segs = []api.Seg{{Type: 4, Flags: 8}}; r.count = 1 }).file(), api.ErrForm)
	fails(t, with(func(r *raw) { r.segs = []api.Seg{{Type: 4, Off: rawSize + 1}}; r.count = 1 }).file(), api.ErrRange)
	for _, l := range [][]api.Seg{
		{{Type: 1, Mem: 1}},
		{{Type: 4}, {Type: 1, Mem: 1}},
		{{Type: 7, Mem: 3}, {}, {Type: 1, Off: rawSize, Vaddr: 1<<32 - 256, Mem: 256}},
	} {
		r := with(func(r *raw) { r.segs, r.count = l, uint64(len(l)) })
		x := r.image()
		x.Soname, x.Needed, x.Names, x.Syms, x.Relas = "", nil, nil, nil, nil
		accepts(t, r.file(), x)
		fails(t, r.file()[:64+56*len(l)-1], api.ErrRange)
	}
}

// P9.1: without a SegDynamic there are no names, symbols and relocations, whatever the bytes are.
func TestParseWithoutDynamic(t *testing.T) {
	for _, kind := range []uint32{0, 4} {
		r := with(func(r *raw) {
			r.segs[entriesSeg].Type = kind
			r.syms[0].Size = 7
			r.relas[2].Off = last
			r.table[0] = 'x'
		})
		x := r.image()
		x.Soname, x.Needed, x.Names, x.Syms, x.Relas = "", nil, nil, nil, nil
		accepts(t, r.file(), x)
	}
}

// P9.1: segs.Check refuses a second SegDynamic ahead of all that might be read of the first.
func TestParseTwoDynamic(t *testing.T) {
	for _, at := range []int{nothing, note, tls} {
		r := with(func(r *raw) { r.segs[at] = r.segs[entriesSeg] })
		fails(t, r.file(), api.ErrOver)
		r.entries = []uint64{2, 2}
		fails(t, r.file(), api.ErrOver)
	}
}

// P9.1: dynamic entries over the end of the file and of what is loaded, without bytes and without an end.
func TestParseEntries(t *testing.T) {
	place := func(off, file uint64) []byte {
		return with(func(r *raw) {
			s := &r.segs[entriesSeg]
			s.Off, s.Vaddr, s.File, s.Mem = off, 0x1000+off, file, file
		}).file()
	}
	fails(t, place(rawSize, 1), api.ErrRange)
	fails(t, place(rawSize+1, 0), api.ErrRange)
	fails(t, place(entriesAt, rawSize-entriesAt+1), api.ErrRange)
	fails(t, place(entriesAt, rawSize-entriesAt), api.ErrForm)
	fails(t, place(entriesAt, 2816-entriesAt+1), api.ErrForm)
	fails(t, place(entriesAt, 0), api.ErrRange)
	fails(t, place(rawSize, 0), api.ErrRange)
	fails(t, place(entriesAt, 15), api.ErrRange)
	fails(t, place(entriesAt, 159), api.ErrRange)
	for _, file := range []uint64{160, 161, 175, 256, 2816 - entriesAt} {
		if !asReckoned(t, place(entriesAt, file)) {
			t.Errorf("entries of %d bytes are refused", file)
		}
	}
	// The entry in front of the others: what is read begins at Off.
	fails(t, place(entriesAt+16, 128), api.ErrRange)
	r := with(func(r *raw) {
		s := &r.segs[entriesSeg]
		s.Off, s.Vaddr, s.File, s.Mem = entriesAt+16, 0x1000+entriesAt+16, 144, 144
	})
	x := r.image()
	x.Needed = []string{"c"}
	accepts(t, r.file(), x)
}

// P9.1: the table of names: where it stands, and whether it is one.
func TestParseTable(t *testing.T) {
	table := func(addr, size uint64, change func(r *raw)) []byte {
		return with(func(r *raw) {
			r.entries[strtabValue], r.entries[strszValue] = addr, size
			change(r)
		}).file()
	}
	same := func(*raw) {}
	size := uint64(len(rawNames))
	for _, c := range []struct {
		addr, size uint64
		err        api.Errno
	}{
		{0x1000 + tableAt, size, api.OK},
		{0x1000 + tableAt, size + 1, api.OK},
		{0x1000 + tableAt, size - 1, api.ErrForm},
		{0x1000 + tableAt, size - 2, api.ErrRange}, // without the last name
		{0x1000 + tableAt + 1, size - 1, api.ErrForm},
		{0x1000 + tableAt, 0, api.ErrMap},
		{0, 0, api.ErrMap},
		{0xfff, size, api.ErrMap},
		{tableAt, size, api.ErrMap},
		{0x1000 + 2816, 1, api.ErrMap},
		{0x1000 + 2815, 2, api.ErrMap},
		{0x1000 + 2815, 1, api.ErrRange}, // a table without the names
		{0x1000 + tableAt, 2816 - tableAt + 1, api.ErrMap},
		{0x1000 + tableAt, last, api.ErrMap},
		{0x1000 + tableAt, last - 0x1000 - tableAt + 1, api.ErrMap},
		{last, 1, api.ErrMap},
		{last, 2, api.ErrMap},
		{0x5000 + 300, 1, api.ErrMap}, // in memory alone
		{0x5000 + 299, 1, api.ErrRange},
	} {
		if b := table(c.addr, c.size, same); c.err != api.OK {
			fails(t, b, c.err)
		} else if !asReckoned(t, b) {
			t.Errorf("a table at %d of %d bytes is refused", c.addr, c.size)
		}
	}
	// A table in another segment, at an address that isn't its place in the file.
	r := with(func(r *raw) {
		r.entries[strtabValue] = 0x5000
		r.table, r.late = nil, func(b []byte) { copy(b[dataAt:], rawNames) }
	})
	accepts(t, r.file(), r.image())
}

// P9.1: Soname 0 and others.
func TestParseSoname(t *testing.T) {
	for at, name := range map[uint64]string{0: "", 1: "libm", 2: "ibm", 5: "", 6: "c", 8: "me", 9: "e", 10: "", 11: "f", 19: "w", 20: ""} {
		r := with(func(r *raw) { r.entries[sonameValue] = at })
		x := r.image()
		x.Soname = name
		accepts(t, r.file(), x)
	}
	for _, at := range []uint64{21, 22, 100, 1 << 32, last} {
		fails(t, with(func(r *raw) { r.entries[sonameValue] = at }).file(), api.ErrRange)
	}
	// Without an entry there is none either.
	r := with(func(r *raw) { r.entries[sonameValue-1], r.entries[sonameValue] = 1, 8 })
	x := r.image()
	x.Soname, x.Needed = "", []string{"libm", "c", "me"}
	accepts(t, r.file(), x)
}

// P9.1: what is needed: one after the other, and which fault is told.
func TestParseNeeded(t *testing.T) {
	for _, c := range []struct {
		first, second uint64
		err           api.Errno
	}{
		{0, 6, api.ErrForm},
		{5, 6, api.ErrForm},
		{6, 0, api.ErrForm},
		{6, 20, api.ErrForm},
		{6, 21, api.ErrRange},
		{21, 6, api.ErrRange},
		{0, 21, api.ErrForm},
		{21, 0, api.ErrRange},
		{last, 0, api.ErrRange},
		{0, last, api.ErrForm},
		{0, 0, api.ErrForm},
	} {
		fails(t, with(func(r *raw) { r.entries[neededFirst], r.entries[neededSecond] = c.first, c.second }).file(), c.err)
	}
	r := with(func(r *raw) { r.entries[neededFirst], r.entries[neededSecond] = 6, 6 })
	x := r.image()
	x.Needed = []string{"c", "c"}
	accepts(t, r.file(), x)
	r = with(func(r *raw) { r.entries = r.entries[4:] })
	x = r.image()
	x.Needed = nil
	accepts(t, r.file(), x)
	// The Soname comes first, and then the symbols do.
	fails(t, with(func(r *raw) { r.entries[sonameValue], r.entries[neededFirst] = 21, 0 }).file(), api.ErrRange)
	fails(t, with(func(r *raw) { r.entries[symnumValue], r.entries[neededSecond] = 1025, 0 }).file(), api.ErrForm)
}

// great is a raw file of 65536 bytes that are loaded at 0x10000, with so many symbols from 4096 on.
func great(n int) *raw {
	return with(func(r *raw) {
		r.size = maxFile
		r.segs = []api.Seg{{Type: 1, Flags: 4, Vaddr: 0x10000, File: maxFile, Mem: maxFile}, {Type: 2, Off: entriesAt, Vaddr: 0x10000 + entriesAt, File: 256, Mem: 256}}
		r.count = 2
		r.entries = []uint64{5, 0x10000 + tableAt, 10, uint64(len(rawNames)), 6, 0x10000 + 4096, 0x6000000d, uint64(n), 0, 0}
		r.syms, r.relas = nil, nil
		r.late = func(b []byte) {
			for i := 1; i < n && 4096+24*(i+1) <= len(b); i++ {
				copy(b[4096+24*i:], plainSym(api.Sym{Name: uint32(11 + i%2*2), Info: 18, Sect: 1, Value: uint64(i)}))
			}
		}
	})
}

// P9.1: how many symbols there may be: none, the zero entry alone, 1024 and one more.
func TestParseSymnum(t *testing.T) {
	for _, n := range []int{0, 1, 2, 3, 500, 1023, 1024} {
		r := great(n)
		b := r.file()
		x := Image{Head: head.Head{Kind: 3, Entry: 0x3004, Segs: 64, Count: 2}, Segs: r.segs, Bytes: b}
		for i := range n {
			s, name := api.Sym{Name: uint32(11 + i%2*2), Info: 18, Sect: 1, Value: uint64(i)}, []string{"f", "g"}[i%2]
			if i == 0 {
				s, name = api.Sym{}, ""
			}
			x.Syms, x.Names = append(x.Syms, s), append(x.Names, name)
		}
		accepts(t, b, x)
	}
	fails(t, great(1025).file(), api.ErrSize)
	for _, n := range []uint64{1025, 1026, 1 << 32, 1<<32 + 1, 1 << 61, 1<<61 + 1, 1 << 63, last} {
		fails(t, with(func(r *raw) { r.entries[symnumValue] = n }).file(), api.ErrSize)
		// The number comes ahead of the place.
		fails(t, with(func(r *raw) { r.entries[symnumValue], r.entries[symtabValue] = n, 0 }).file(), api.ErrSize)
	}
	// 1024 that aren't all there, and none at a place that isn't there.
	fails(t, with(func(r *raw) { r.entries[symnumValue] = 1024 }).file(), api.ErrMap)
	r := with(func(r *raw) { r.entries[symnumValue], r.entries[symtabValue], r.entries[relaszValue] = 0, last, 0 })
	x := r.image()
	x.Names, x.Syms, x.Relas = nil, nil, nil
	accepts(t, r.file(), x)
	// Without symbols there are none for relocations.
	fails(t, with(func(r *raw) { r.entries[symnumValue] = 0 }).file(), api.ErrRange)
	fails(t, with(func(r *raw) { r.entries[symnumValue] = 5 }).file(), api.ErrRange)
	r = with(func(r *raw) { r.entries[symnumValue], r.entries[relaszValue] = 0, 48 })
	x = r.image()
	x.Names, x.Syms, x.Relas = nil, nil, x.Relas[:2]
	accepts(t, r.file(), x)
}

// P9.1: symbols that aren't loaded, wrong entries, and names outside the table.
func TestParseSyms(t *testing.T) {
	for _, addr := range []uint64{0, symsAt, 0x1000 - 1, 0x1000 + 2816 - 143, 0x1000 + 2816, 0x3000 + 57, 0x5000 + 157, 0x5000 + 300, last, last - 143, last - 142, 1 << 63} {
		fails(t, with(func(r *raw) { r.entries[symtabValue] = addr }).file(), api.ErrMap)
	}
	r := with(func(r *raw) {
		r.entries[symtabValue] = 0x3000 + 56
		syms := r.syms
		r.late = func(b []byte) {
			clear(b[symsAt:relasAt])
			for i, s := range syms {
				copy(b[codeAt+56+24*i:], plainSym(s))
			}
		}
	})
	accepts(t, r.file(), r.image())
	for _, s := range []api.Sym{
		{}, {Name: 11}, {Name: 11, Info: 48}, {Name: 11, Info: 19}, {Name: 11, Info: 16, Other: 1}, {Name: 11, Info: 16, Sect: 2}, {Info: 16},
		{Name: 11, Info: 16, Value: 1}, {Name: 11, Info: 16, Size: 1}, {Name: 99, Info: 48}, {Name: 99, Info: 19, Sect: 1, Value: last},
	} {
		for i := 1; i < 6; i++ {
			fails(t, with(func(r *raw) { r.syms[i] = s }).file(), api.ErrForm)
		}
	}
	for i := range 6 {
		for _, name := range []uint32{21, 22, 1 << 16, math.MaxUint32} {
			err := api.ErrRange
			if i == 0 {
				err = api.ErrForm
			}
			fails(t, with(func(r *raw) { r.syms[i].Name = name }).file(), err)
			// All entries are looked at ahead of all names.
			fails(t, with(func(r *raw) { r.syms[i].Name = name; r.syms[5].Other = 1 }).file(), api.ErrForm)
		}
	}
	// An empty name that isn't the table's first byte, and a piece of a name.
	r = with(func(r *raw) { r.syms[3].Name, r.syms[2].Name = 20, 3 })
	x := r.image()
	x.Names = []string{"", "f", "bm", "", "t", "w"}
	accepts(t, r.file(), x)
}

// P9.1: how many bytes of relocations there may be.
func TestParseRelasz(t *testing.T) {
	place := func(addr, size uint64) []byte {
		return with(func(r *raw) { r.entries[relaValue], r.entries[relaszValue] = addr, size }).file()
	}
	for _, size := range []uint64{maxFile + 1, maxFile + 8, 24 * 2731, 1 << 32, 1<<32 + 24, 1 << 63, last} {
		fails(t, place(0x1000+relasAt, size), api.ErrSize)
		fails(t, place(0, size), api.ErrSize)
	}
	fails(t, place(0x1000+relasAt, maxFile), api.ErrMap)
	fails(t, place(0x1000+relasAt, 24*2730), api.ErrMap)
	for _, size := range []uint64{0, 24, 48, 72, 96, 120, 144, 168, 192, 216, 512} {
		r := with(func(r *raw) { r.entries[relaszValue] = size })
		if size == 512 {
			fails(t, r.file(), api.ErrRange)
			continue
		}
		x := r.image()
		// Behind the last one are bytes 0, which are one of the type None.
		x.Relas = append(slices.Clone(x.Relas), api.Rela{})[:size/24]
		accepts(t, r.file(), x)
		for _, more := range []uint64{1, 8, 12, 16, 23} {
			fails(t, place(0x1000+relasAt, size+more), api.ErrRange)
		}
	}
	// None at a place that isn't there.
	r := with(func(r *raw) { r.entries[relaszValue], r.entries[relaValue] = 0, last })
	x := r.image()
	x.Relas = nil
	accepts(t, r.file(), x)
	for _, addr := range []uint64{0, relasAt, 0x1000 + 2816 - 191, 0x3000 + 9, 0x5000 + 300, last, last - 191, last - 190} {
		fails(t, place(addr, 192), api.ErrMap)
		// The place comes ahead of the entries' sizes.
		fails(t, place(addr, 193), api.ErrMap)
	}
	// 65536 bytes that are all there aren't entries; 24 less than that are told of their types.
	all := great(1)
	all.entries = append(all.entries[:8], 7, 0x10000, 8, maxFile, 0, 0)
	fails(t, all.file(), api.ErrRange)
	all.entries[11] = 24 * 2730
	fails(t, all.file(), api.ErrReloc)
}

// P9.1: many relocations, up to the end of the file.
func TestParseManyRelas(t *testing.T) {
	r := great(1)
	const at, n = 4096 + 64, 2557 // up to 8 bytes ahead of the end
	r.entries = append(r.entries[:8], 7, 0x10000+at, 8, 24*n, 0, 0)
	var want []api.Rela
	for i := range n {
		want = append(want, api.Rela{Off: 0x10000 + uint64(i), Type: 8, Add: int64(-i)})
	}
	r.late = func(b []byte) {
		for i, x := range want {
			copy(b[at+24*i:], plainRela(x))
		}
	}
	b := r.file()
	accepts(t, b, Image{Head: head.Head{Kind: 3, Entry: 0x3004, Segs: 64, Count: 2}, Segs: r.segs, Names: []string{""}, Syms: []api.Sym{{}}, Relas: want, Bytes: b})
	r.entries[11] += 24
	fails(t, r.file(), api.ErrMap)
}

// P9.1: relocations' types and symbols.
func TestParseRelas(t *testing.T) {
	for i := range 8 {
		for kind := range uint32(40) {
			for sym := range uint32(8) {
				asReckoned(t, with(func(r *raw) { r.relas[i].Type, r.relas[i].Sym = kind, sym }).file())
			}
		}
		fails(t, with(func(r *raw) { r.relas[i].Type = math.MaxUint32 }).file(), api.ErrReloc)
		fails(t, with(func(r *raw) { r.relas[i].Type, r.relas[i].Sym = 1, math.MaxUint32 }).file(), api.ErrRange)
	}
	// The entries are looked at in order, and all of them ahead of their places.
	fails(t, with(func(r *raw) { r.relas[1].Type, r.relas[2].Sym = 3, 6 }).file(), api.ErrReloc)
	fails(t, with(func(r *raw) { r.relas[2].Type, r.relas[1].Sym = 3, 1 }).file(), api.ErrForm)
	fails(t, with(func(r *raw) { r.relas[1].Off, r.relas[7].Type = last, 3 }).file(), api.ErrReloc)
}

// P9.1: a relocation's eight bytes inside, across both ends of and outside what is in memory.
func TestParseMemory(t *testing.T) {
	for i := 1; i < 8; i++ {
		for _, c := range []struct {
			off uint64
			err api.Errno
		}{
			{0, api.ErrMap},
			{0xff8, api.ErrMap},
			{0xfff, api.ErrMap},
			{0x1000, api.OK},
			{0x1000 + 2808, api.OK},
			{0x1000 + 2809, api.ErrMap},
			{0x1000 + 2816, api.ErrMap},
			{0x2ff9, api.ErrMap},
			{0x3000, api.OK},
			{0x3000 + 192, api.OK},
			{0x3000 + 200, api.OK}, // in memory alone
			{0x3000 + 242, api.OK},
			{0x3000 + 243, api.ErrMap},
			{0x3000 + 249, api.ErrMap},
			{0x3000 + 250, api.ErrMap},
			{0x5000 + 992, api.OK},
			{0x5000 + 993, api.ErrMap},
			{0x5000 + 1000, api.ErrMap},
			{1<<32 - 8, api.ErrMap},
			{1 << 32, api.ErrMap},
			{1<<32 + 0x5000, api.ErrMap},
			{1<<63 + 0x5000, api.ErrMap},
			{last - 7, api.ErrMap},
			{last - 8, api.ErrMap},
			{last, api.ErrMap},
		} {
			r := with(func(r *raw) { r.relas[i].Off = c.off })
			if c.err == api.OK {
				accepts(t, r.file(), r.image())
			} else {
				fails(t, r.file(), c.err)
			}
			// One of the type None may be anywhere.
			r.relas[i].Type, r.relas[i].Sym = 0, 0
			accepts(t, r.file(), r.image())
		}
	}
}

// P9.1: memory up to the top, with fewer than eight bytes, and of two segments that touch.
func TestParseMemoryEdges(t *testing.T) {
	place := func(vaddr, mem, off uint64) *raw {
		return with(func(r *raw) {
			r.segs[data].Vaddr, r.segs[data].Mem, r.segs[data].File = vaddr, mem, 0
			r.segs[tls].File = 0
			r.relas = r.relas[:2]
			r.entries[relaszValue] = 48
			r.relas[1].Off = off
		})
	}
	for _, c := range []struct {
		vaddr, mem, off uint64
		err             api.Errno
	}{
		{1<<32 - 256, 256, 1<<32 - 8, api.OK},
		{1<<32 - 256, 256, 1<<32 - 7, api.ErrMap},
		{1<<32 - 256, 256, 1 << 32, api.ErrMap},
		{1<<32 - 256, 256, last - 7, api.ErrMap},
		{1<<32 - 256, 255, 1<<32 - 8, api.ErrMap},
		{0x5000, 7, 0x5000, api.ErrMap},
		{0x5000, 8, 0x5000, api.OK},
		{0x5000, 8, 0x5001, api.ErrMap},
		{0x5000, 9, 0x5001, api.OK},
		{0x5000, 1, 0x5000, api.ErrMap},
		{0x5000, 1, last, api.ErrMap},
		{0x5000, 7, last, api.ErrMap},
		{0x3100, 300, 0x3100, api.OK},
		{0x3100, 300, 0x30fc, api.ErrMap},
	} {
		r := place(c.vaddr, c.mem, c.off)
		if c.err != api.OK {
			fails(t, r.file(), c.err)
		} else {
			accepts(t, r.file(), r.image())
		}
	}
	// A word of which each half is in a segment is in neither.
	r := place(0x3100, 300, 0x30fc)
	r.segs[code].Mem = 256
	fails(t, r.file(), api.ErrMap)
	// In memory of another kind than SegLoad there is nothing to write to.
	r = place(0x5000, 8, 0x9000)
	r.segs[note] = api.Seg{Type: 4, Vaddr: 0x9000, Mem: 100}
	r.segs[tls].Vaddr = 0x9000
	fails(t, r.file(), api.ErrMap)
}

// P9.1: values of symbols at and above the top, and within a thread's block.
func TestParseValues(t *testing.T) {
	for i := 1; i < 6; i++ {
		for _, info := range []byte{0, 1, 2, 6, 16, 17, 18, 22, 32, 33, 34, 38} {
			for _, value := range []uint64{0, 99, 100, 101, 1<<32 - 1, 1 << 32, 1<<32 + 1, 1 << 63, last} {
				r := with(func(r *raw) { r.syms[i].Info, r.syms[i].Sect, r.syms[i].Value = info, 1, value })
				switch local := info%16 == 6; {
				case local && value > 100:
					fails(t, r.file(), api.ErrForm)
				case !local && value > 1<<32:
					fails(t, r.file(), api.ErrSize)
				default:
					accepts(t, r.file(), r.image())
				}
			}
		}
		// Of one that isn't defined nothing is asked, also when it is one of a thread's block.
		r := with(func(r *raw) { r.syms[i] = api.Sym{Name: r.syms[i].Name, Info: 22} })
		r.segs[tls].Mem, r.syms[4].Value = 44, 44
		if i == 4 {
			r.syms[4].Value = 0
		}
		accepts(t, r.file(), r.image())
	}
}

// P9.1: symbols of a thread's block with one and without.
func TestParseTls(t *testing.T) {
	for _, c := range []struct {
		mem, value uint64
		err        api.Errno
	}{
		{44, 0, api.OK}, {44, 44, api.OK}, {44, 45, api.ErrForm}, {1 << 20, 1 << 20, api.OK}, {1 << 20, 1<<20 + 1, api.ErrForm}, {100, last, api.ErrForm},
	} {
		r := with(func(r *raw) { r.segs[tls].Mem, r.syms[4].Value = c.mem, c.value })
		if c.err != api.OK {
			fails(t, r.file(), c.err)
		} else {
			accepts(t, r.file(), r.image())
		}
	}
	r := with(func(r *raw) { r.segs[tls].File, r.segs[tls].Mem, r.syms[4].Value = 0, 0, 0 })
	accepts(t, r.file(), r.image())
	r.syms[4].Value = 1
	fails(t, r.file(), api.ErrForm)
	for _, value := range []uint64{0, 1, 100, last} {
		fails(t, with(func(r *raw) { r.segs[tls].Type, r.syms[4].Value = 4, value }).file(), api.ErrForm)
		fails(t, with(func(r *raw) { r.segs[tls].Type, r.syms[4].Value = 0, value }).file(), api.ErrForm)
		fails(t, with(func(r *raw) { r.count, r.syms[4].Value = 6, value }).file(), api.ErrForm)
	}
	// Without such symbols no block is asked for.
	r = with(func(r *raw) { r.segs[tls].Type, r.syms[4] = 4, api.Sym{Name: 17, Info: 22} })
	accepts(t, r.file(), r.image())
	// The symbols are looked at in order, and behind the relocations.
	fails(t, with(func(r *raw) { r.syms[1].Value, r.syms[4].Value = 1<<32+1, 101 }).file(), api.ErrSize)
	fails(t, with(func(r *raw) { r.syms[5].Value, r.syms[4].Value = 1<<32+1, 101 }).file(), api.ErrForm)
	fails(t, with(func(r *raw) { r.syms[1].Value, r.relas[7].Off = 1<<32+1, last }).file(), api.ErrMap)
}

// P9.1: each byte of a file changed, and bits of it; and each two bytes that stand beside each other.
func TestParseChanged(t *testing.T) {
	for _, file := range [][]byte{whole().file(), built(t, full())} {
		accepted := 0
		for i := range file {
			b := bytes.Clone(file)
			for _, x := range []byte{0, 1, 2, 7, 8, 16, 255, file[i] + 1, file[i] - 1, file[i] ^ 128} {
				b[i] = x
				if asReckoned(t, b) {
					accepted++
				}
			}
		}
		if accepted == 0 || accepted == 10*len(file) {
			t.Errorf("%d files of %d are accepted", accepted, 10*len(file))
		}
	}
	// Of a small file each byte to each value.
	file := built(t, Spec{Kind: head.Lib, Soname: "m", Needed: []string{"l"}, Code: []byte{1, 2}, Defs: []Def{{"f", Code, 0, false}}, Fixes: []Fix{{Code, 0, 0, -1, 0}}})
	for i := range file {
		b := bytes.Clone(file)
		for x := range 256 {
			b[i] = byte(x)
			asReckoned(t, b)
		}
	}
}

// P9.1: files cut off at each place.
func TestParseCut(t *testing.T) {
	for _, file := range [][]byte{whole().file(), built(t, full()), built(t, Spec{Kind: head.Lib})} {
		for n := range file {
			ok := asReckoned(t, file[:n])
			if n < 64 {
				fails(t, file[:n], api.ErrRange)
			}
			// What stands behind the last segment's bytes may be missing.
			if ok && !bytes.Equal(file, whole().file()) {
				t.Errorf("%d bytes of %d are accepted", n, len(file))
			}
		}
		if !asReckoned(t, append(bytes.Clone(file), 1, 2, 3)) {
			t.Error("further bytes are refused")
		}
	}
}

// stir answers numbers that look like no rule.
func stir(x uint64) func(n int) int {
	return func(n int) int {
		x = x*6364136223846793005 + 1442695040888963407
		return int(x>>33) % n
	}
}

// P9.1: files with several numbers changed to ones near those that are looked at.
func TestParseStirred(t *testing.T) {
	next := stir(9)
	errs := map[api.Errno]int{}
	for range 60000 {
		r := whole()
		number := func() uint64 {
			near := []uint64{0, 1, 24, 100, 256, 0x1000, 0x1000 + 2816, 0x3000, 0x3000 + 250, 0x5000, 0x5000 + 1000, 1 << 32, last, rawSize, uint64(next(3000))}
			return near[next(len(near))] + uint64(next(3)) - 1
		}
		for range 1 + next(3) {
			switch next(9) {
			case 0:
				s := &r.segs[next(7)]
				*[]*uint64{&s.Off, &s.Vaddr, &s.File, &s.Mem}[next(4)] = number()
			case 1:
				r.segs[next(7)].Type = uint32(next(9))
			case 2:
				r.entries[1+2*next(10)] = number()
			case 3:
				r.entries[next(20)] = uint64(next(26))
			case 4:
				r.syms[next(6)].Value = number()
			case 5:
				r.syms[next(6)] = api.Sym{Name: uint32(next(22)), Info: byte(next(50)), Sect: uint16(next(3)), Value: uint64(next(2))}
			case 6:
				r.relas[next(8)].Off = number()
			case 7:
				x := &r.relas[next(8)]
				x.Type, x.Sym = uint32(next(20)), uint32(next(7))
			case 8:
				r.table[next(len(r.table))] = byte(next(2))
			}
		}
		b := r.file()
		_, e := reckoned(b)
		errs[e]++
		asReckoned(t, b)
	}
	for _, e := range []api.Errno{api.OK, api.ErrRange, api.ErrForm, api.ErrOver, api.ErrSize, api.ErrMap, api.ErrReloc} {
		if errs[e] < 100 {
			t.Errorf("error %d occurs %d times only", e, errs[e])
		}
	}
}

// P9.1: an image is in new memory: of the file, of another call's, and of its own lists.
func TestParseNewMemory(t *testing.T) {
	r := whole()
	file := r.file()
	kept := bytes.Clone(file)
	x, e := Parse(file)
	y, f := Parse(file)
	want := r.image()
	if e != api.OK || f != api.OK || !equal(x, want) || !equal(y, want) {
		t.Fatalf("Parse twice: %s, %d and %s, %d", short(x), e, short(y), f)
	}
	clear(file)
	if !equal(x, want) || !equal(y, want) {
		t.Fatal("an image changed with the file")
	}
	copy(file, kept)
	for what, change := range map[string]func(x *Image){
		"Segs":   func(x *Image) { x.Segs[0].Off++; x.Segs = append(x.Segs, api.Seg{Type: 9}) },
		"Needed": func(x *Image) { x.Needed[0] = "other"; x.Needed = append(x.Needed, "more") },
		"Names":  func(x *Image) { x.Names[1] = "other"; x.Names = append(x.Names, "more") },
		"Syms":   func(x *Image) { x.Syms[1].Value++; x.Syms = append(x.Syms, api.Sym{Name: 9}) },
		"Relas":  func(x *Image) { x.Relas[1].Off++; x.Relas = append(x.Relas, api.Rela{Off: 9}) },
		"Bytes":  func(x *Image) { clear(x.Bytes); x.Bytes = append(x.Bytes, 9) },
	} {
		x, _ := Parse(file)
		changed := copied(x)
		change(&changed)
		change(&x)
		if !equal(x, changed) {
			t.Errorf("a change of %s changed something else in the image", what)
		}
		if !equal(y, want) || !bytes.Equal(file, kept) {
			t.Errorf("a change of %s changed another image or the file", what)
		}
	}
	parses(t, file, want, api.OK)
}
