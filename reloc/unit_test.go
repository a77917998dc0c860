package reloc

import (
	"reflect"
	"testing"

	"dormouse/api"
	"dormouse/closure"
	"dormouse/dynamic"
	"dormouse/head"
	"dormouse/image"
	"dormouse/layout"
	"dormouse/names"
	"dormouse/rela"
	"dormouse/segs"
	"dormouse/symbols"
)

// loaded is how many bytes each unit of a test loads; there is room for words in them.
const loaded = 4096

// entry is a symbol of a test.
type entry struct {
	name    string
	bind    int
	kind    int
	defined bool
	value   uint64
}

// plain is what a unit of a test is made of: its symbols, which stand from index 1 on, its relocations, its Tls, if that is not below 0, and the address of its first byte.
type plain struct {
	syms  []entry
	relas []api.Rela
	tls   int64
	start uint64
}

// sym is the symbol that an entry whose name stands at a place tells.
func (n entry) sym(at uint64) api.Sym {
	s := api.Sym{Name: uint32(at), Info: byte(16*n.bind + n.kind)}
	if n.defined {
		s.Sect, s.Value = 1, n.value
	}
	return s
}

// table are the names of a unit, and where they stand; the empty one stands at the last byte 0.
func (p plain) table(t *testing.T) ([]byte, []uint64) {
	t.Helper()
	l := []string{"something"}
	for _, n := range p.syms {
		l = append(l, n.name)
	}
	b, at, e := names.Build(l)
	if e != api.OK {
		t.Fatal(e)
	}
	for k, n := range p.syms {
		if n.name == "" {
			at[k+1] = uint64(len(b) - 1)
		}
	}
	return b, at[1:]
}

// unit is the parsed unit of what it is made of.
func (p plain) unit(t *testing.T, name string) closure.Unit {
	t.Helper()
	table, at := p.table(t)
	b := make([]byte, head.Size+3*segs.Size)
	info := dynamic.Info{Strtab: p.start + uint64(len(b)), Strsz: uint64(len(table))}
	b = append(b, table...)
	if len(p.syms) > 0 {
		info.Symtab, info.Symnum = p.start+uint64(len(b)), uint64(len(p.syms))+1
		b = append(b, symbols.Put(api.Sym{})...)
		for k, n := range p.syms {
			b = append(b, symbols.Put(n.sym(at[k]))...)
		}
	}
	if len(p.relas) > 0 {
		info.Rela, info.Relasz = p.start+uint64(len(b)), rela.Size*uint64(len(p.relas))
		for _, x := range p.relas {
			b = append(b, rela.Put(x)...)
		}
	}
	front, entries := uint64(len(b)), dynamic.Put(info)
	b = append(b, entries...)
	size := uint64(len(entries))
	l := []api.Seg{
		{Type: api.SegLoad, Flags: api.Read | api.Write, Vaddr: p.start, File: uint64(len(b)), Mem: max(loaded, uint64(len(b)))},
		{Type: api.SegDynamic, Flags: api.Read, Off: front, Vaddr: p.start + front, File: size, Mem: size},
		{},
	}
	if p.tls >= 0 {
		l[2] = api.Seg{Type: api.SegTls, Flags: api.Read, Mem: uint64(p.tls)}
	}
	raw, e := head.Put(head.Head{Kind: head.Lib, Segs: head.Size, Count: len(l)})
	if e != api.OK {
		t.Fatal(e)
	}
	for _, s := range l {
		raw = append(raw, segs.Put(s)...)
	}
	copy(b, raw)
	m, e := image.Parse(b)
	if e != api.OK {
		t.Fatalf("%+v: error %d", p, e)
	}
	return closure.Unit{Name: name, Image: m}
}

// units are the parsed units of what they are made of.
func units(t *testing.T, l ...plain) []closure.Unit {
	t.Helper()
	var out []closure.Unit
	for k, p := range l {
		out = append(out, p.unit(t, string(rune('a'+k))))
	}
	return out
}

// placed are the modules of units, one behind the other.
func placed(t *testing.T, l []closure.Unit) []layout.Module {
	t.Helper()
	m, e := layout.Place(l, layout.Bases(l))
	if e != api.OK {
		t.Fatal(e)
	}
	return m
}

// global is a symbol that all units see.
func global(name string, kind int, value uint64) entry {
	return entry{name, symbols.Global, kind, true, value}
}

// weak is a symbol that all units see and nobody needs.
func weak(name string, kind int, value uint64) entry {
	return entry{name, symbols.Weak, kind, true, value}
}

// local is a symbol that its own unit sees alone.
func local(name string, kind int, value uint64) entry {
	return entry{name, symbols.Local, kind, true, value}
}

// wanted is a symbol that another unit has to define.
func wanted(name string) entry { return entry{name: name, bind: symbols.Global} }

// wished is a symbol that another unit may define.
func wished(name string) entry { return entry{name: name, bind: symbols.Weak} }

// holds are a unit's symbols, without relocations and Tls.
func holds(l ...entry) plain { return plain{syms: l, tls: -1} }

// good are the words of units that have some, at their modules.
func good(t *testing.T, l []closure.Unit, m []layout.Module) []Word {
	t.Helper()
	w, e := Words(l, m)
	if e != api.OK {
		t.Fatalf("error %d", e)
	}
	return w
}

// expect holds the words of units, one behind the other, against those that they should have.
func expect(t *testing.T, l []closure.Unit, want ...Word) {
	t.Helper()
	if w := good(t, l, placed(t, l)); !(len(w) == 0 && len(want) == 0) && !reflect.DeepEqual(w, want) {
		t.Errorf("%+v, not %+v", w, want)
	}
}

// fails expects an error, and nothing beside it.
func fails(t *testing.T, want api.Errno, l []closure.Unit, m []layout.Module) {
	t.Helper()
	if w, e := Words(l, m); w != nil || e != want {
		t.Errorf("%+v, error %d, not %d", w, e, want)
	}
}
