package reloc

import (
	"math"
	"reflect"
	"testing"

	"dormouse/api"
	"dormouse/closure"
	"dormouse/head"
	"dormouse/image"
	"dormouse/layout"
	"dormouse/rela"
	"dormouse/symbols"
)

// last is the greatest number of 64 bits.
const last = uint64(math.MaxUint64)

// The bases of the first three units of a test that loads loaded bytes each.
const (
	baseA = 4096
	baseB = baseA + loaded + api.Page
	baseC = baseB + loaded + api.Page
)

// types are all that have a symbol.
func types() []uint32 {
	return []uint32{rela.Abs, rela.Got, rela.Slot, rela.Module, rela.Within, rela.Thread}
}

// ofLocal tells whether a type is about a symbol of kind Tls.
func ofLocal(kind uint32) bool { return kind >= rela.Module }

// made are the units of the chapter's example: a program with such relocations that needs f, which a library defines.
func made(t *testing.T, fixes ...image.Fix) []closure.Unit {
	t.Helper()
	var files []api.File
	for _, s := range []image.Spec{
		{Kind: head.Exe, Soname: "a", Needed: []string{"b"}, Data: make([]byte, 64), Defs: []image.Def{{Name: "f"}}, Fixes: fixes},
		{Kind: head.Lib, Soname: "b", Code: make([]byte, 16), Defs: []image.Def{{Name: "f", Where: image.Code, Off: 8}}},
	} {
		b, e := image.Build(s)
		if e != api.OK {
			t.Fatal(e)
		}
		files = append(files, api.File{Name: s.Soname, Bytes: b})
	}
	l, e := closure.Order("a", files)
	if e != api.OK {
		t.Fatal(e)
	}
	return l
}

// P17.1, P17.2: the examples of the chapter.
func TestExamples(t *testing.T) {
	l := made(t, image.Fix{Where: image.Data, Off: 8, Type: rela.Abs, Add: 5}, image.Fix{Where: image.Data, Off: 32, Type: rela.Relative, Def: -1, Add: 9})
	f := l[1].Image.Syms[1]
	if x, there := Resolve(l, "f"); !there || x != (Target{1, f}) {
		t.Error(x, there)
	}
	if x, there := Resolve(l, "g"); there || x != (Target{}) {
		t.Error(x, there)
	}
	m := placed(t, l)
	if m[0].Base != 4096 {
		t.Fatal(m)
	}
	data := l[0].Image.Segs[1].Vaddr
	want := []Word{
		{Addr: 4096 + data + 8, Value: m[1].Base + f.Value + 5, Unit: 1},
		{Addr: 4096 + data + 32, Value: 4105, Unit: 0},
	}
	if w := good(t, l, m); !reflect.DeepEqual(w, want) {
		t.Errorf("%+v, not %+v", w, want)
	}
	two := units(t, holds(wanted("f")), holds(global("f", symbols.Func, 5)), holds(global("f", symbols.Func, 6)))
	if x, there := Resolve(two, "f"); !there || x.Unit != 1 || x.Sym.Value != 5 {
		t.Error(x, there)
	}
}

// P17.1: the first symbol of the first unit that is defined and not Local, whatever else there is.
func TestResolve(t *testing.T) {
	f := symbols.Func
	for _, c := range []struct {
		what  string
		l     []plain
		unit  int
		value uint64 // 0: there is none
	}{
		{"no units", nil, 0, 0},
		{"no symbols", []plain{holds(), holds()}, 0, 0},
		{"alone", []plain{holds(global("f", f, 7))}, 0, 7},
		{"behind a unit without symbols", []plain{holds(), holds(global("f", f, 7))}, 1, 7},
		{"two units", []plain{holds(global("f", f, 7)), holds(global("f", f, 8))}, 0, 7},
		{"two symbols of a unit", []plain{holds(global("f", f, 9), global("f", f, 8))}, 0, 9},
		{"behind others", []plain{holds(global("e", f, 1), global("ff", f, 2), global("F", f, 3), global("f", f, 4))}, 0, 4},
		{"the unit is ahead of the index", []plain{holds(global("e", f, 1), global("f", f, 2)), holds(global("f", f, 3))}, 0, 2},
		{"not defined", []plain{holds(wanted("f"))}, 0, 0},
		{"not defined, weak", []plain{holds(wished("f"), wanted("f"))}, 0, 0},
		{"not defined ahead of defined", []plain{holds(wanted("f"), wished("f"), global("f", f, 5))}, 0, 5},
		{"not defined in the first unit", []plain{holds(wanted("f")), holds(wished("f")), holds(global("f", f, 5))}, 2, 5},
		{"local", []plain{holds(local("f", f, 1))}, 0, 0},
		{"local ahead of global", []plain{holds(local("f", f, 1), global("f", f, 2))}, 0, 2},
		{"local in the first unit", []plain{holds(local("f", f, 1)), holds(global("f", f, 2))}, 1, 2},
		{"weak", []plain{holds(weak("f", f, 3))}, 0, 3},
		{"weak ahead of global", []plain{holds(weak("f", f, 3)), holds(global("f", f, 4))}, 0, 3},
		{"weak ahead of global in a unit", []plain{holds(weak("f", f, 3), global("f", f, 4))}, 0, 3},
		{"global ahead of weak", []plain{holds(global("f", f, 3)), holds(weak("f", f, 4))}, 0, 3},
		{"any kind", []plain{holds(global("f", symbols.Plain, 3)), holds(global("f", f, 4))}, 0, 3},
		{"Object", []plain{holds(global("f", symbols.Object, 3)), holds(global("f", f, 4))}, 0, 3},
		{"Tls", []plain{{syms: []entry{global("f", symbols.Tls, 3)}, tls: 8}, holds(global("f", f, 4))}, 0, 3},
		{"part of a name", []plain{holds(global("fg", f, 3), global("ef", f, 4))}, 0, 0},
		{"the unit's name", []plain{holds(), holds(), holds(), holds(), holds(), holds()}, 0, 0},
	} {
		l := units(t, c.l...)
		x, there := Resolve(l, "f")
		if there != (c.value > 0) || x.Unit != c.unit || x.Sym.Value != c.value || !there && x != (Target{}) {
			t.Errorf("%s: %+v, %v", c.what, x, there)
		}
		if there && (x.Sym.Name == 0 || x.Sym.Sect != 1) {
			t.Errorf("%s: %+v is not the whole symbol", c.what, x)
		}
	}
}

// P17.1: a name may be empty, or have any bytes; the zero entry is not defined.
func TestResolveNames(t *testing.T) {
	l := units(t, holds(wanted("x")), holds(global("", symbols.Func, 4), global("\xff\xfe", symbols.Object, 5), global("x y", symbols.Plain, 6), global("a_name_of_many_bytes", symbols.Func, 7)))
	for k, name := range []string{"", "\xff\xfe", "x y", "a_name_of_many_bytes"} {
		if x, there := Resolve(l, name); !there || x != (Target{1, l[1].Image.Syms[k+1]}) {
			t.Errorf("%q: %+v, %v", name, x, there)
		}
	}
	for _, name := range []string{"x", "\xff", "X y", "x y\x00", "\x00", "a_name_of_many_Bytes", "a_name_of_many_byte"} {
		if x, there := Resolve(l, name); there || x != (Target{}) {
			t.Errorf("%q: %+v, %v", name, x, there)
		}
	}
	if x, there := Resolve(l[:1], ""); there {
		t.Error(x)
	}
}

// P17.2: as many modules as units, and that before anything else.
func TestCount(t *testing.T) {
	bad := holds(wanted("f"))
	bad.relas = []api.Rela{{Type: rela.Abs, Sym: 1}}
	l := units(t, bad, holds())
	m := placed(t, l)
	fails(t, api.ErrSymbol, l, m)
	fails(t, api.ErrArg, l, m[:1])
	fails(t, api.ErrArg, l, nil)
	fails(t, api.ErrArg, l, append(m, m[0]))
	fails(t, api.ErrArg, nil, m[:1])
	if w, e := Words(nil, nil); len(w) != 0 || e != api.OK {
		t.Error(w, e)
	}
	if w, e := Words([]closure.Unit{}, []layout.Module{}); len(w) != 0 || e != api.OK {
		t.Error(w, e)
	}
}

// P17.2: a word for each relocation but those of type None, unit by unit, in order, also at one address.
func TestOrder(t *testing.T) {
	rel := func(off uint64, add int64) api.Rela { return api.Rela{Off: off, Type: rela.Relative, Add: add} }
	none := api.Rela{Off: last, Type: rela.None, Add: 5}
	a := plain{relas: []api.Rela{none, rel(800, 1), rel(8, 2), none, none, rel(8, 3)}, tls: -1}
	c := plain{relas: []api.Rela{rel(loaded-8, 4), rel(0, 5), none}, tls: -1}
	expect(t, units(t, a, plain{relas: []api.Rela{none}, tls: -1}, c, holds()),
		Word{baseA + 800, baseA + 1, 0}, Word{baseA + 8, baseA + 2, 0}, Word{baseA + 8, baseA + 3, 0},
		Word{baseC + loaded - 8, baseC + 4, 2}, Word{baseC, baseC + 5, 2})
	expect(t, units(t, plain{relas: []api.Rela{none, none}, tls: -1}))
	expect(t, units(t, holds(wanted("f"))))
}

// P17.2: what is of type None is not looked at; a symbol that nobody defines is no error without a relocation to it.
func TestNotNeeded(t *testing.T) {
	p := plain{syms: []entry{wanted("f"), local("t", symbols.Tls, 0)}, relas: []api.Rela{{Type: rela.None}, {Off: 8, Type: rela.Relative}}, tls: 0}
	expect(t, units(t, p), Word{baseA + 8, baseA, 0})
}

// with are units of which the first one has such symbols, and one relocation of a type to the first of them.
func with(t *testing.T, kind uint32, syms []entry, others ...plain) []closure.Unit {
	t.Helper()
	p := plain{syms: syms, relas: []api.Rela{{Off: 16, Type: kind, Sym: 1, Add: 100}}, tls: 64}
	return units(t, append([]plain{p}, others...)...)
}

// P17.2: which symbol is the target of the own one.
func TestTarget(t *testing.T) {
	f := symbols.Func
	for _, c := range []struct {
		what  string
		own   []entry
		b     plain
		value uint64
		unit  int
	}{
		{"own, global", []entry{global("f", f, 7)}, holds(), baseA + 7, 0},
		{"own, weak", []entry{weak("f", f, 7)}, holds(), baseA + 7, 0},
		{"own, local", []entry{local("f", f, 7)}, holds(), baseA + 7, 0},
		{"own ahead of the other", []entry{global("f", f, 7)}, holds(global("f", f, 8)), baseA + 7, 0},
		{"own weak ahead of the other", []entry{weak("f", f, 7)}, holds(global("f", f, 8)), baseA + 7, 0},
		{"own local ahead of the other", []entry{local("f", f, 7)}, holds(global("f", f, 8)), baseA + 7, 0},
		{"own local ahead of another own", []entry{local("f", f, 7), global("f", f, 9)}, holds(), baseA + 7, 0},
		{"the first of its own", []entry{wanted("f"), weak("f", f, 9), global("f", f, 8)}, holds(), baseA + 9, 0},
		{"not another local one", []entry{wanted("f"), local("f", f, 9)}, holds(global("f", f, 8)), baseB + 8, 1},
		{"the other", []entry{wanted("f")}, holds(global("f", f, 8)), baseB + 8, 1},
		{"the other, weak", []entry{wanted("f")}, holds(weak("f", f, 8)), baseB + 8, 1},
		{"the other, wished", []entry{wished("f")}, holds(global("f", f, 8)), baseB + 8, 1},
		{"the other, wished and weak", []entry{wished("f")}, holds(weak("f", f, 8)), baseB + 8, 1},
		{"the other behind its local one", []entry{wanted("f")}, holds(local("f", f, 9), global("f", f, 8)), baseB + 8, 1},
		{"the empty name", []entry{wanted("")}, holds(global("", f, 8)), baseB + 8, 1},
		{"by the name, not the index", []entry{wanted("g")}, holds(global("f", f, 8), global("g", f, 9)), baseB + 9, 1},
	} {
		t.Run(c.what, func(t *testing.T) {
			expect(t, with(t, rela.Got, c.own, c.b), Word{baseA + 16, c.value, c.unit})
		})
	}
}

// P17.2: a preceding unit's symbol is ahead of the own one, if that is not Local.
func TestTargetOfLater(t *testing.T) {
	f := symbols.Func
	for _, c := range []struct {
		own   entry
		value uint64
		unit  int
	}{
		{global("f", f, 7), baseA + 5, 0},
		{weak("f", f, 7), baseA + 5, 0},
		{wanted("f"), baseA + 5, 0},
		{wished("f"), baseA + 5, 0},
		{local("f", f, 7), baseB + 7, 1},
	} {
		for _, first := range []entry{global("f", f, 5), weak("f", f, 5)} {
			b := plain{syms: []entry{c.own}, relas: []api.Rela{{Off: 24, Type: rela.Slot, Sym: 1}}, tls: -1}
			expect(t, units(t, holds(first), b, holds(global("f", f, 6))), Word{baseB + 24, c.value, c.unit})
		}
	}
}

// P17.2: without a target it is an error, unless the own symbol is Weak.
func TestMissing(t *testing.T) {
	for _, kind := range types() {
		for _, others := range [][]plain{{}, {holds(wanted("f"), wished("f"))}, {holds(local("f", symbols.Func, 5))}, {holds(global("g", symbols.Func, 5))}} {
			l := with(t, kind, []entry{wanted("f"), local("f", symbols.Func, 9)}, others...)
			fails(t, api.ErrSymbol, l, placed(t, l))
			l = with(t, kind, []entry{wished("f"), wanted("f"), local("f", symbols.Func, 9)}, others...)
			value := uint64(100)
			if kind == rela.Got || kind == rela.Slot || kind == rela.Module {
				value = 0
			}
			expect(t, l, Word{baseA + 16, value, -1})
		}
	}
}

// P17.2: each type with a target of each kind, its own and another unit's, and whatever the kind of the own symbol is.
func TestKinds(t *testing.T) {
	for _, kind := range types() {
		for _, of := range []int{symbols.Plain, symbols.Object, symbols.Func, symbols.Tls} {
			fine := ofLocal(kind) == (of == symbols.Tls)
			other := plain{syms: []entry{global("f", of, 8)}, tls: 64}
			var all [][]closure.Unit
			for _, own := range []entry{global("f", of, 8), weak("f", of, 8), local("f", of, 8)} {
				all = append(all, with(t, kind, []entry{own}), with(t, kind, []entry{own}, other))
			}
			for own := range 8 {
				if own > symbols.Func && own != symbols.Tls {
					continue
				}
				for bind := symbols.Global; bind <= symbols.Weak; bind++ {
					all = append(all, with(t, kind, []entry{{name: "f", bind: bind, kind: own}}, other))
				}
			}
			for _, l := range all {
				if fine {
					good(t, l, placed(t, l))
				} else {
					fails(t, api.ErrReloc, l, placed(t, l))
				}
			}
		}
	}
}

// P17.2: unit by unit, relocation by relocation; the first error counts.
func TestFirstError(t *testing.T) {
	syms := []entry{wanted("none"), global("f", symbols.Func, 8), wished("nobody")}
	symbol := api.Rela{Type: rela.Abs, Sym: 1}
	reloc := api.Rela{Type: rela.Thread, Sym: 2}
	fine := []api.Rela{{Type: rela.Abs, Sym: 2}, {Type: rela.None}, {Type: rela.Relative}, {Type: rela.Thread, Sym: 3}}
	of := func(l ...api.Rela) plain { return plain{syms: syms, relas: append(l, fine...), tls: -1} }
	for _, c := range []struct {
		want api.Errno
		l    []plain
	}{
		{api.OK, []plain{of(), of(fine...)}},
		{api.ErrSymbol, []plain{of(symbol, reloc)}},
		{api.ErrReloc, []plain{of(reloc, symbol)}},
		{api.ErrSymbol, []plain{of(append(fine, symbol, reloc)...)}},
		{api.ErrReloc, []plain{of(append(fine, reloc, symbol)...)}},
		{api.ErrSymbol, []plain{of(), of(symbol), of(reloc)}},
		{api.ErrReloc, []plain{of(), of(reloc), of(symbol)}},
		{api.ErrSymbol, []plain{of(symbol), of(reloc)}},
		{api.ErrReloc, []plain{of(reloc), of(symbol)}},
		{api.ErrReloc, []plain{of(), of(), of(fine[0], fine[1], reloc)}},
	} {
		l := units(t, c.l...)
		if c.want == api.OK {
			good(t, l, placed(t, l))
		} else {
			fails(t, c.want, l, placed(t, l))
		}
	}
	// A type that does not fit the own symbol's kind is no matter where nobody defines it.
	l := units(t, plain{syms: []entry{{name: "x", bind: symbols.Global, kind: symbols.Tls}}, relas: []api.Rela{symbol}, tls: 8})
	fails(t, api.ErrSymbol, l, placed(t, l))
}

// P17.2, P17.3: the value and the unit of each type, without and with sums beyond 2^64.
func TestValues(t *testing.T) {
	const f, v, off = 0x123, 0x31, 24 // off is that of b's part of the block
	for _, add := range []int64{0, 1, -1, 5, 1 << 40, -(1 << 40), math.MaxInt64, math.MinInt64} {
		n := uint64(add)
		for _, c := range []struct {
			kind  uint32
			name  string
			value uint64
			unit  int
		}{
			{rela.Abs, "f", baseC + f + n, 2},
			{rela.Got, "f", baseC + f, 2},
			{rela.Slot, "f", baseC + f, 2},
			{rela.Module, "v", 3, -1},
			{rela.Within, "v", v + n, -1},
			{rela.Thread, "v", off + v + n, -1},
			{rela.Abs, "no", n, -1},
			{rela.Got, "no", 0, -1},
			{rela.Slot, "no", 0, -1},
			{rela.Module, "no", 0, -1},
			{rela.Within, "no", n, -1},
			{rela.Thread, "no", n, -1},
			{rela.Relative, "", baseB + n, 1},
		} {
			x := api.Rela{Off: 72, Type: c.kind, Sym: 1, Add: add}
			b := plain{syms: []entry{wished(c.name)}, relas: []api.Rela{x}, tls: -1}
			if c.kind == rela.Relative {
				b.syms, b.relas[0].Sym = nil, 0
			}
			first := plain{syms: []entry{local("f", symbols.Func, 1), local("v", symbols.Tls, 1)}, tls: 17}
			third := plain{syms: []entry{global("f", symbols.Object, f), weak("v", symbols.Tls, v)}, tls: 0x31}
			expect(t, units(t, first, b, third), Word{baseB + 72, c.value, c.unit})
		}
	}
}

// P17.2, P17.3: it is the Base of a module that counts, not where the unit begins.
func TestStart(t *testing.T) {
	b := holds(global("f", symbols.Func, 0x345))
	b.start = 3 * api.Page
	b.relas = []api.Rela{{Off: 3*api.Page + 8, Type: rela.Relative, Add: 7}}
	const base = baseB - 3*api.Page
	expect(t, with(t, rela.Slot, []entry{wanted("f")}, b), Word{baseA + 16, base + 0x345, 1}, Word{baseB + 8, base + 7, 1})
}

// P17.3: symbols of the own unit, the first and others, with and without parts of the block ahead of them.
func TestOwnValues(t *testing.T) {
	for _, bind := range []int{symbols.Local, symbols.Global, symbols.Weak} {
		own := []entry{{"f", bind, symbols.Func, true, 0x200}, {"v", bind, symbols.Tls, true, 9}}
		p := plain{syms: own, tls: 9}
		for k, kind := range types() {
			x := api.Rela{Off: 8 * uint64(k), Type: kind, Sym: 1, Add: 3}
			if ofLocal(kind) {
				x.Sym = 2
			}
			p.relas = append(p.relas, x)
		}
		at := func(unit int, base, off uint64) []Word {
			return []Word{
				{base, base + 0x203, unit}, {base + 8, base + 0x200, unit}, {base + 16, base + 0x200, unit},
				{base + 24, uint64(unit) + 1, -1}, {base + 32, 12, -1}, {base + 40, off + 12, -1},
			}
		}
		expect(t, units(t, p), at(0, baseA, 0)...)
		expect(t, units(t, plain{tls: 1}, holds(), p), at(2, baseC, 8)...)
		if bind == symbols.Local {
			expect(t, units(t, p, p), append(at(0, baseA, 0), at(1, baseB, 16)...)...)
		}
	}
}

// P17.3: Values of symbols at their edges: 0, the end of the block's part, and Top.
func TestEdges(t *testing.T) {
	a := plain{syms: []entry{wanted("zero"), wanted("top"), wanted("start"), wanted("end")}, tls: -1}
	for k, kind := range []uint32{rela.Got, rela.Got, rela.Thread, rela.Thread} {
		a.relas = append(a.relas, api.Rela{Type: kind, Sym: uint32(k) + 1})
	}
	b := plain{syms: []entry{global("zero", symbols.Plain, 0), global("top", symbols.Plain, api.Top), global("start", symbols.Tls, 0), global("end", symbols.Tls, 1<<32)}, tls: 1 << 32}
	expect(t, units(t, a, b), Word{baseA, baseB, 1}, Word{baseA, baseB + api.Top, 1}, Word{baseA, 0, -1}, Word{baseA, 1 << 32, -1})
}

// P17.1, P17.2: what comes in stays as it is, what comes out is new, and equal calls answer the same.
func TestNewMemory(t *testing.T) {
	fresh := func() []closure.Unit {
		return made(t, image.Fix{Where: image.Data, Type: rela.Abs, Add: 5}, image.Fix{Where: image.Data, Off: 8, Type: rela.Relative, Def: -1})
	}
	l, before := fresh(), fresh()
	m, kept := placed(t, l), placed(t, before)
	w, again := good(t, l, m), good(t, l, m)
	x, there := Resolve(l, "f")
	if y, too := Resolve(l, "f"); x != y || there != too {
		t.Error(y, too)
	}
	if !reflect.DeepEqual(l, before) || !reflect.DeepEqual(m, kept) || !reflect.DeepEqual(w, again) {
		t.Error("something has changed")
	}
	w[0], w[1] = Word{}, Word{}
	_ = append(w[:1], Word{Unit: 7})
	if third := good(t, l, m); !reflect.DeepEqual(third, again) {
		t.Errorf("%+v", third)
	}
}

// P17.1, P17.2: no call panics or goes on for ever, whatever the units and modules are.
func TestAnything(t *testing.T) {
	f := api.Sym{Name: 1, Info: 16, Sect: 1, Value: last}
	images := []image.Image{
		{},
		{Names: []string{"", "f"}},
		{Syms: []api.Sym{f, f}},
		{Names: []string{"f"}, Syms: []api.Sym{{}, f}},
		{Names: []string{"x", "f", "f"}, Syms: []api.Sym{{}, f}},
	}
	for _, base := range []uint64{0, 5, last} {
		for _, sym := range []uint32{0, 1, 2, math.MaxInt32, 1 << 31, math.MaxUint32} {
			for kind := range uint32(20) {
				for _, i := range images {
					i.Relas = []api.Rela{{Off: last, Type: kind, Sym: sym, Add: math.MinInt64}}
					l := []closure.Unit{{Image: i}, {Image: images[4]}}
					w, e := Words(l, []layout.Module{{Base: base, TlsOff: last}, {Base: last, High: 5}})
					if e != api.OK && w != nil {
						t.Error(w, e)
					}
				}
			}
		}
	}
	for k, i := range images {
		x, there := Resolve([]closure.Unit{{Image: i}}, "f")
		if there != (k == 4) {
			t.Errorf("%d: %+v, %v", k, x, there)
		}
	}
}
