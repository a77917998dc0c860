package image

import (
	"dormouse/api"
	"dormouse/dynamic"
	"dormouse/head"
	"dormouse/names"
	"dormouse/octets"
	"dormouse/rela"
	"dormouse/segs"
	"dormouse/symbols"
)

// Places of what a Spec says.
const (
	Nowhere = 0
	Code    = 1
	Data    = 2
	Local   = 3 // in a thread's block
)

// maxBss is how many bytes 0 there may be behind those of the file.
const maxBss = 1 << 20

// align is what the parts are aligned to that don't begin a page.
const align = 8

// binds is how much a symbol's bind counts in its Info.
const binds = 16

// Def is a symbol of a Spec.
type Def struct {
	Name  string
	Where int
	Off   uint64
	Weak  bool
}

// Fix is a relocation of a Spec; Def below 0: without a symbol.
type Fix struct {
	Where int
	Off   uint64
	Type  uint32
	Def   int
	Add   int64
}

// Spec is what a file is made of.
type Spec struct {
	Kind   int
	Soname string
	Needed []string
	Entry  uint64 // within the code
	Code   []byte
	Data   []byte
	Bss    uint64
	Tls    []byte
	TlsBss uint64
	Defs   []Def
	Fixes  []Fix
}

// builder is a Spec with where its parts stand in the file, or would if they had bytes.
type builder struct {
	Spec
	table   []byte       // the names
	defs    []uint64     // where those of Defs stand in it
	info    dynamic.Info // what the dynamic entries tell
	dynamic uint64
	front   uint64 // the end of the relocations
	code    uint64
	data    uint64
	tls     uint64
}

// Build is the file of a Spec.
func Build(s Spec) ([]byte, api.Errno) {
	if !valid(s) {
		return nil, api.ErrArg
	}
	if !small(s) {
		return nil, api.ErrSize
	}
	table, places, e := names.Build(namesOf(s))
	if e != api.OK {
		return nil, e
	}
	b := plan(s, table, places)
	if b.end() > api.MaxFile {
		return nil, api.ErrSize
	}
	return b.file(), api.OK
}

// valid tells whether a Spec's kind, and its places and symbols, are among those there are.
func valid(s Spec) bool {
	for _, d := range s.Defs {
		if d.Where < Nowhere || d.Where > Local {
			return false
		}
	}
	for _, f := range s.Fixes {
		if f.Where != Code && f.Where != Data || f.Def >= len(s.Defs) {
			return false
		}
	}
	return mayBe(s.Kind)
}

// small tells whether what a Spec lays into memory isn't too great.
func small(s Spec) bool {
	return s.Bss <= maxBss && s.TlsBss <= maxBss && len(s.Code)+len(s.Data)+len(s.Tls) <= api.MaxFile
}

// namesOf are a Spec's names, in the order of the table.
func namesOf(s Spec) []string {
	l := append([]string{s.Soname}, s.Needed...)
	for _, d := range s.Defs {
		l = append(l, d.Name)
	}
	return l
}

// plan lays out the parts of a Spec whose names stand at such places of a table.
func plan(s Spec, table []byte, places []uint64) builder {
	needed := 1 + len(s.Needed) // where the names of what is needed end
	b := builder{Spec: s, table: table, defs: places[needed:]}
	b.info = dynamic.Info{
		Needed: places[1:needed],
		Soname: places[0],
		Strsz:  uint64(len(table)),
		Relasz: rela.Size * uint64(len(s.Fixes)),
	}
	if len(s.Defs) > 0 {
		b.info.Symnum = 1 + uint64(len(s.Defs))
	}
	// The addresses aren't known yet, but how many segments and entries there are doesn't hang on them.
	b.dynamic = head.Size + segs.Size*uint64(len(b.segments()))
	b.info.Strtab = b.dynamic + uint64(len(dynamic.Put(b.info)))
	b.info.Symtab = up(b.info.Strtab+b.info.Strsz, align)
	b.info.Rela = b.info.Symtab + symbols.Size*b.info.Symnum
	b.front = b.info.Rela + b.info.Relasz
	b.code = up(b.front, api.Page)
	b.data = up(b.code+uint64(len(s.Code)), api.Page)
	b.tls = up(b.data+uint64(len(s.Data)), align)
	return b
}

// end is where the last part ends that has bytes.
func (b builder) end() uint64 {
	switch {
	case len(b.Tls) > 0:
		return b.tls + uint64(len(b.Tls))
	case len(b.Data) > 0:
		return b.data + uint64(len(b.Data))
	case len(b.Code) > 0:
		return b.code + uint64(len(b.Code))
	}
	return b.front
}

// file are the parts' bytes.
func (b builder) file() []byte {
	// The bytes between the parts are 0 from here on.
	file := make([]byte, b.end())
	lay(file, 0, b.header())
	lay(file, head.Size, join(b.segments(), segs.Put))
	lay(file, b.dynamic, dynamic.Put(b.info))
	lay(file, b.info.Strtab, b.table)
	lay(file, b.info.Symtab, join(b.symbols(), symbols.Put))
	lay(file, b.info.Rela, join(b.relocations(), rela.Put))
	lay(file, b.code, b.Code)
	lay(file, b.data, b.Data)
	lay(file, b.tls, b.Tls)
	return file
}

// header are the bytes of the file's header.
func (b builder) header() []byte {
	h := head.Head{Kind: b.Kind, Segs: head.Size, Count: len(b.segments())}
	if len(b.Code) > 0 {
		h.Entry = b.code + b.Entry
	}
	// Without an error: the kind is one of those there are, and there are a few segments only.
	raw, _ := head.Put(h)
	return raw
}

// segments are the program headers.
func (b builder) segments() []api.Seg {
	l := []api.Seg{segment(api.SegLoad, api.Read, 0, b.front, 0)}
	if size := uint64(len(b.Code)); size > 0 {
		l = append(l, segment(api.SegLoad, api.Read|api.Exec, b.code, size, 0))
	}
	size := uint64(len(b.Data))
	if len(b.Tls) > 0 {
		size = b.tls + uint64(len(b.Tls)) - b.data
	}
	if size > 0 || b.Bss > 0 {
		s := segment(api.SegLoad, api.Read|api.Write, b.data, size, b.Bss)
		if size == 0 {
			s.Off = 0
		}
		l = append(l, s)
	}
	l = append(l, segment(api.SegDynamic, api.Read, b.dynamic, b.info.Strtab-b.dynamic, 0))
	if size := uint64(len(b.Tls)); size > 0 {
		l = append(l, segment(api.SegTls, api.Read, b.tls, size, b.TlsBss))
	} else if b.TlsBss > 0 {
		l = append(l, segment(api.SegTls, api.Read, 0, 0, b.TlsBss))
	}
	return l
}

// segment is one whose address is that in the file, with so many bytes there and so many 0 behind them.
func segment(kind, flags uint32, at, size, bss uint64) api.Seg {
	s := api.Seg{Type: kind, Flags: flags, Off: at, Vaddr: at, File: size, Mem: size + bss, Align: align}
	if kind == api.SegLoad {
		s.Align = api.Page
	}
	return s
}

// symbols are the entries of Defs, behind a zero entry; without Defs there are none.
func (b builder) symbols() []api.Sym {
	if len(b.Defs) == 0 {
		return nil
	}
	l := []api.Sym{{}}
	for i, d := range b.Defs {
		s := api.Sym{Name: uint32(b.defs[i]), Info: infoOf(d), Value: b.address(d.Where, d.Off)}
		if d.Where != Nowhere {
			s.Sect = 1
		}
		l = append(l, s)
	}
	return l
}

// relocations are the entries of Fixes.
func (b builder) relocations() []api.Rela {
	var l []api.Rela
	for _, f := range b.Fixes {
		r := api.Rela{Off: b.address(f.Where, f.Off), Type: f.Type, Add: f.Add}
		if f.Def >= 0 {
			// The zero entry stands ahead of those of Defs.
			r.Sym = 1 + uint32(f.Def)
		}
		l = append(l, r)
	}
	return l
}

// address is that of a place so many bytes within a part; a thread's block has none of its own.
func (b builder) address(where int, off uint64) uint64 {
	switch where {
	case Code:
		return b.code + off
	case Data:
		return b.data + off
	case Local:
		return off
	}
	return 0
}

// infoOf is the Info of a Def: how it binds, and its kind.
func infoOf(d Def) byte {
	bind := symbols.Global
	if d.Weak {
		bind = symbols.Weak
	}
	return byte(binds*bind + kindOf(d.Where))
}

// kindOf is the kind of what stands at a place of a Spec.
func kindOf(where int) int {
	switch where {
	case Code:
		return symbols.Func
	case Data:
		return symbols.Object
	case Local:
		return symbols.Tls
	}
	return symbols.Plain
}

// join are the bytes of entries, one behind the other.
func join[T any](l []T, put func(T) []byte) []byte {
	var b []byte
	for _, x := range l {
		b = append(b, put(x)...)
	}
	return b
}

// lay writes a part into the file.
func lay(file []byte, at uint64, part []byte) {
	// One without bytes may begin behind the file's end.
	if len(part) > 0 {
		copy(file[at:], part)
	}
}

// up is a place of the file, or the least multiple of a power of 2 above it.
func up(x, a uint64) uint64 {
	// Without an error: a is a power of 2, and no place is near 2^64.
	at, _ := octets.Up(x, a)
	return at
}
