package layout

import (
	"math"
	"reflect"
	"slices"
	"testing"

	"dormouse/api"
	"dormouse/closure"
	"dormouse/head"
	"dormouse/image"
	"dormouse/segs"
)

// last is the greatest number of 64 bits.
const last = uint64(math.MaxUint64)

// piece is a SegLoad: its Vaddr and its Mem.
type piece struct{ at, size uint64 }

// unit is a parsed unit that loads such pieces and has those segments besides.
func unit(t *testing.T, name string, pieces []piece, others ...api.Seg) closure.Unit {
	t.Helper()
	var l []api.Seg
	for _, p := range pieces {
		l = append(l, api.Seg{Type: api.SegLoad, Flags: api.Read, Off: p.at % api.Page, Vaddr: p.at, Mem: p.size})
	}
	l = append(l, others...)
	b, e := head.Put(head.Head{Kind: head.Lib, Segs: 64, Count: len(l)})
	if e != api.OK {
		t.Fatal(e)
	}
	for _, s := range l {
		b = append(b, segs.Put(s)...)
	}
	b = append(b, make([]byte, api.Page)...) // so that each Off is one of the file
	m, e := image.Parse(b)
	if e != api.OK {
		t.Fatal(name, pieces, others, e)
	}
	return closure.Unit{Name: name, Image: m}
}

// one is a parsed unit of so many pages from a place on.
func one(t *testing.T, name string, at, pages uint64) closure.Unit {
	t.Helper()
	return unit(t, name, []piece{{at, pages * api.Page}})
}

// local is a parsed unit of one page at 0 and a SegTls of such a Mem.
func local(t *testing.T, name string, mem uint64) closure.Unit {
	t.Helper()
	return unit(t, name, []piece{{0, api.Page}}, api.Seg{Type: api.SegTls, Flags: api.Read, Mem: mem})
}

// good are the modules of units that may be placed so.
func good(t *testing.T, l []closure.Unit, bases ...uint64) []Module {
	t.Helper()
	m, e := Place(l, bases)
	if e != api.OK || len(m) != len(l) {
		t.Fatalf("at %d: %+v, error %d", bases, m, e)
	}
	return m
}

// fails expects an error, and nothing beside it.
func fails(t *testing.T, want api.Errno, l []closure.Unit, bases ...uint64) {
	t.Helper()
	if m, e := Place(l, bases); m != nil || e != want {
		t.Errorf("at %d: %+v, error %d, not %d", bases, m, e, want)
	}
}

// made are the units of the chapter's examples: a program with one byte of Tls, a library with two.
func made(t *testing.T) []closure.Unit {
	t.Helper()
	prog := image.Spec{Kind: head.Exe, Soname: "m", Needed: []string{"l"}, Tls: []byte{1}}
	lib := image.Spec{Kind: head.Lib, Soname: "l", Tls: []byte{1, 2}}
	var files []api.File
	for _, s := range []image.Spec{prog, lib} {
		b, e := image.Build(s)
		if e != api.OK {
			t.Fatal(e)
		}
		files = append(files, api.File{Name: s.Soname, Bytes: b})
	}
	l, e := closure.Order("m", files)
	if e != api.OK || len(l) != 2 {
		t.Fatal(len(l), e)
	}
	return l
}

// P16.1, P16.2: the examples of the chapter.
func TestExamples(t *testing.T) {
	l := made(t)
	bases := Bases(l)
	if len(bases) != 2 || bases[0] != 4096 {
		t.Fatal(bases)
	}
	m := good(t, l, bases...)
	if m[0].Base != 4096 || m[0].TlsOff != 0 || m[1].TlsOff != 8 {
		t.Errorf("%+v", m)
	}
	fails(t, api.ErrOver, l, 4096, 4096)
	fails(t, api.ErrBase, l, 4096, 5)
	if n := Block(m); n != 16 {
		t.Error(n)
	}
	if k := Of(m, m[1].Low); k != 1 {
		t.Error(k)
	}
	if k := Of(m, 0); k != -1 {
		t.Error(k)
	}
	two := []closure.Unit{one(t, "a", 0, 1), one(t, "b", 0, 1)}
	if b := Bases(two); !slices.Equal(b, []uint64{4096, 4608}) {
		t.Error(b)
	}
}

// P16.1: each field of each module, in the order of the units.
func TestFields(t *testing.T) {
	tls := api.Seg{Type: api.SegTls, Flags: api.Read, Mem: 13, Align: 16}
	l := []closure.Unit{
		unit(t, "m", []piece{{256, 1}}),
		unit(t, "", []piece{{700, 100}, {2048, 513}}, tls),
		unit(t, "m", []piece{{0, 256}}, tls),
	}
	want := []Module{
		{Name: "m", Base: 8192, Low: 8448, High: 8704},
		{Name: "", Base: 0, Low: 512, High: 2816, Tls: true, TlsOff: 0, TlsMem: 13},
		{Name: "m", Base: 1 << 31, Low: 1 << 31, High: 1<<31 + 256, Tls: true, TlsOff: 16, TlsMem: 13},
	}
	if m := good(t, l, 8192, 0, 1<<31); !reflect.DeepEqual(m, want) {
		t.Errorf("%+v", m)
	}
	if m, e := Place(nil, nil); len(m) != 0 || e != api.OK {
		t.Error(m, e)
	}
	if m, e := Place([]closure.Unit{}, []uint64{}); len(m) != 0 || e != api.OK {
		t.Error(m, e)
	}
}

// P16.1: as many bases as units, and that before anything else.
func TestCount(t *testing.T) {
	l := []closure.Unit{one(t, "a", 0, 1), one(t, "b", 0, 1)}
	fails(t, api.ErrArg, l)
	fails(t, api.ErrArg, l, 4096)
	fails(t, api.ErrArg, l, 4096, 8192, 12288)
	fails(t, api.ErrArg, nil, 4096)
	fails(t, api.ErrArg, l, 5)
	fails(t, api.ErrArg, l, 4096, 4096, 4096)
	fails(t, api.ErrArg, l[:1], last, last)
}

// P16.1: a base is a multiple of Page; 0 is one.
func TestMultiple(t *testing.T) {
	l := []closure.Unit{one(t, "a", 0, 1)}
	for base := range uint64(3 * api.Page) {
		if base%api.Page == 0 {
			good(t, l, base)
		} else {
			fails(t, api.ErrBase, l, base)
		}
	}
	for n := range 64 {
		base := uint64(1) << n
		if n < 8 || n >= 32 {
			fails(t, api.ErrBase, l, base)
		} else if m := good(t, l, base); m[0].Low != base {
			t.Error(m)
		}
	}
}

// P16.1: a base and the end of a span are at most Top together, however great both are.
func TestTop(t *testing.T) {
	for _, pages := range []uint64{1, 2, 3, 1 << 23, 1 << 24} {
		for _, at := range []uint64{0, api.Page, 5 * api.Page, api.Top - api.Page} {
			end := at + pages*api.Page
			if end > api.Top {
				continue
			}
			l := []closure.Unit{one(t, "a", at, pages)}
			if m := good(t, l, api.Top-end); m[0].High != api.Top {
				t.Errorf("%+v", m)
			}
			fails(t, api.ErrBase, l, api.Top-end+api.Page)
			fails(t, api.ErrBase, l, api.Top+api.Page)
			fails(t, api.ErrBase, l, 1<<63)
			// Modulo 2^64 the sums of these would be small.
			fails(t, api.ErrBase, l, -end)
			fails(t, api.ErrBase, l, last-255)
		}
	}
	// The end of the span counts, not that of the segment, and not its size.
	l := []closure.Unit{unit(t, "a", []piece{{513, 1}})}
	good(t, l, api.Top-768)
	fails(t, api.ErrBase, l, api.Top-512)
}

// P16.1: what comes before has no address in common.
func TestOver(t *testing.T) {
	a, b := one(t, "a", 0, 4), one(t, "b", 0, 2)
	for base := uint64(0); base < 32*api.Page; base += api.Page {
		for _, l := range [][]closure.Unit{{a, b}, {b, a}} {
			at := []uint64{16 * api.Page, base}
			if l[0].Name == "b" {
				at = []uint64{base, 16 * api.Page}
			}
			if base > 14*api.Page && base < 20*api.Page {
				fails(t, api.ErrOver, l, at...)
			} else {
				good(t, l, at...)
			}
		}
	}
	// Spans may lie apart where bases are equal, and meet where they are not.
	c := one(t, "c", 4*api.Page, 2)
	good(t, []closure.Unit{a, c}, 4096, 4096)
	fails(t, api.ErrOver, []closure.Unit{a, c}, 4096, 4096-api.Page)
	// What lies between the pieces of a unit is its own too.
	gap := unit(t, "g", []piece{{0, 1}, {4096, 1}})
	fails(t, api.ErrOver, []closure.Unit{gap, b}, 4096, 6144)
	fails(t, api.ErrOver, []closure.Unit{b, gap}, 6144, 4096)
	good(t, []closure.Unit{gap, b}, 4096, 8192+256)
	// Any of those before counts, not the last one alone.
	l := []closure.Unit{a, b, b, b}
	good(t, l, 4096, 8192, 12288, 16384)
	for k := range 3 {
		at := []uint64{4096, 8192, 12288, 16384}
		at[3] = at[k]
		fails(t, api.ErrOver, l, at...)
	}
	fails(t, api.ErrOver, l, 4096, 8192, 8192, 16384)
}

// P16.1: unit by unit, a base before what is met.
func TestFirstError(t *testing.T) {
	l := []closure.Unit{one(t, "a", 0, 1), one(t, "b", 0, 1), one(t, "c", 0, 1)}
	fails(t, api.ErrOver, l, 4096, 4096, 5)
	fails(t, api.ErrOver, l, 4096, 4096, api.Top)
	fails(t, api.ErrBase, l, 5, 4096, 4096)
	fails(t, api.ErrBase, l, 4096, api.Top, 4096)
	fails(t, api.ErrBase, l, 4096, 4097, 4096)
	fails(t, api.ErrBase, l, api.Top, api.Top, api.Top)
	fails(t, api.ErrBase, l, 4096, 8192, api.Top)
	fails(t, api.ErrOver, l, 4096, 8192, 4096)
}

// P16.1, P16.2: where each part of the block begins, and how long the block is.
func TestTls(t *testing.T) {
	for _, c := range []struct{ mem, part uint64 }{
		{0, 0}, {1, 8}, {7, 8}, {8, 8}, {9, 16}, {15, 16}, {16, 16}, {17, 24}, {255, 256}, {1 << 31, 1 << 31}, {1<<32 - 1, 1 << 32}, {1 << 32, 1 << 32},
	} {
		l := []closure.Unit{local(t, "a", c.mem), one(t, "b", 0, 1), local(t, "c", 3), local(t, "d", c.mem), local(t, "e", 8)}
		m := good(t, l, 0, 256, 512, 768, 1024)
		offs := []uint64{0, 0, c.part, c.part + 8, 2*c.part + 8}
		mems := []uint64{c.mem, 0, 3, c.mem, 8}
		for k, x := range m {
			if x.TlsOff != offs[k] || x.TlsMem != mems[k] || x.Tls != (k != 1) {
				t.Errorf("%d: %+v", c.mem, x)
			}
		}
		if n := Block(m); n != 2*c.part+16 {
			t.Error(c.mem, n)
		}
		if n := Block(m[:2]); n != c.part {
			t.Error(c.mem, n)
		}
	}
	tls := func(mem uint64) api.Seg { return api.Seg{Type: api.SegTls, Mem: mem} }
	l := []closure.Unit{local(t, "a", 20)}
	l[0].Image.Segs = append([]api.Seg{tls(9)}, append(l[0].Image.Segs, tls(99))...)
	if m := good(t, l, 4096); m[0].TlsMem != 9 {
		t.Errorf("the first one counts: %+v", m)
	}
}

// P16.2: one page of room between each two units, modulo 2^64.
func TestBases(t *testing.T) {
	for _, c := range []struct {
		l    []closure.Unit
		want []uint64
	}{
		{nil, nil},
		{[]closure.Unit{one(t, "a", 0, 1)}, []uint64{4096}},
		{[]closure.Unit{one(t, "a", 1024, 7)}, []uint64{4096}},
		{[]closure.Unit{one(t, "a", 0, 3), one(t, "b", 0, 2), one(t, "c", 0, 1)}, []uint64{4096, 5120, 5888}},
		{[]closure.Unit{one(t, "a", 256, 3), one(t, "b", 512, 2), one(t, "c", 0, 1)}, []uint64{4096, 4864, 6144}},
		{[]closure.Unit{unit(t, "a", []piece{{255, 2}, {1025, 1}}), one(t, "b", 0, 1)}, []uint64{4096, 5632}},
		{[]closure.Unit{one(t, "a", 0, 1), one(t, "b", 4608, 1)}, []uint64{4096, 0}},
		{[]closure.Unit{one(t, "a", 0, 1), one(t, "b", 4864, 1), one(t, "c", 0, 1)}, []uint64{4096, last - 255, 5120}},
		{[]closure.Unit{one(t, "a", 0, 1), one(t, "b", api.Top-256, 1)}, []uint64{4096, last - api.Top + 4865}},
		{[]closure.Unit{one(t, "a", 0, 1<<24), one(t, "b", 0, 1<<24)}, []uint64{4096, api.Top + 4352}},
	} {
		if b := Bases(c.l); !slices.Equal(b, c.want) {
			t.Errorf("%d, not %d", b, c.want)
		}
	}
}

// P16.2: the parts of the modules that have Tls, whatever else the others say; modulo 2^64.
func TestBlock(t *testing.T) {
	has := func(mem uint64) Module { return Module{Tls: true, TlsMem: mem, TlsOff: 77, Low: 5, High: 500} }
	for _, c := range []struct {
		l    []Module
		want uint64
	}{
		{nil, 0},
		{[]Module{{}}, 0},
		{[]Module{has(0)}, 0},
		{[]Module{has(1), {TlsMem: 99}, has(9)}, 24},
		{[]Module{has(1 << 63), has(1 << 63), has(3)}, 8},
		{[]Module{has(last), has(8)}, 8},
		{[]Module{has(last - 6)}, 0},
		{[]Module{has(last - 7), has(2)}, 0},
		{[]Module{has(last - 8)}, last - 7},
	} {
		if n := Block(c.l); n != c.want {
			t.Errorf("%+v: %d, not %d", c.l, n, c.want)
		}
	}
}

// P16.2: the first module that has the address, if one has it.
func TestOf(t *testing.T) {
	l := []Module{
		{Low: 512, High: 768}, {Low: 768, High: 768}, {Low: 768, High: 1024}, {Low: 600, High: 900}, {Low: 2000, High: 1000}, {Low: last, High: last}, {Low: 1 << 63, High: last},
	}
	for _, c := range []struct {
		addr uint64
		want int
	}{
		{0, -1}, {511, -1}, {512, 0}, {600, 0}, {767, 0}, {768, 2}, {899, 2}, {1023, 2}, {1024, -1}, {1500, -1}, {2000, -1}, {1<<63 - 1, -1}, {1 << 63, 6}, {last - 1, 6}, {last, -1},
	} {
		if k := Of(l, c.addr); k != c.want {
			t.Errorf("%d: %d, not %d", c.addr, k, c.want)
		}
	}
	if k := Of(nil, 5); k != -1 {
		t.Error(k)
	}
	if k := Of(l[3:], 700); k != 0 {
		t.Error(k)
	}
	if k := Of(l[2:], 700); k != 1 {
		t.Error(k)
	}
	if k := Of([]Module{{Base: 0, Low: 512, High: 768}}, 0); k != -1 {
		t.Error("Base is not Low", k)
	}
}

// P16.1, P16.2: what comes in stays as it is, what comes out is new, and equal calls answer the same.
func TestNewMemory(t *testing.T) {
	l, before := made(t), made(t)
	bases := Bases(l)
	kept := slices.Clone(bases)
	m := good(t, l, bases...)
	again := good(t, l, bases...)
	Block(m)
	Of(m, 5000)
	if !reflect.DeepEqual(l, before) || !slices.Equal(bases, kept) || !reflect.DeepEqual(m, again) {
		t.Error("something has changed")
	}
	m[0], bases[0] = Module{}, 7
	if third := good(t, l, Bases(l)...); !reflect.DeepEqual(third, again) {
		t.Errorf("%+v", third)
	}
	if !slices.Equal(Bases(l), kept) {
		t.Error(Bases(l))
	}
}

// P16.1: no call panics, whatever the units are.
func TestAnything(t *testing.T) {
	for _, at := range []uint64{0, 1, 255, api.Top, last - 255, last} {
		for _, size := range []uint64{0, 1, 256, api.Top, last - 255, last} {
			l := []closure.Unit{{}, {Image: image.Image{Segs: []api.Seg{{Type: api.SegLoad, Vaddr: at, Mem: size}, {Type: api.SegTls, Mem: size}}}}, {}}
			if n := len(Bases(l)); n != 3 {
				t.Error(n)
			}
			for _, base := range []uint64{0, 256, api.Top, last - 255, last} {
				m, e := Place(l, []uint64{base, 0, base})
				if e != api.OK && m != nil {
					t.Error(m, e)
				}
				Block(m)
				Of(m, base)
			}
		}
	}
}
