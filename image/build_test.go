package image

import (
	"bytes"
	"math"
	"slices"
	"strings"
	"testing"

	"dormouse/api"
	"dormouse/head"
)

// pad are bytes with 0 behind them up to a multiple of n.
func pad(b []byte, n int) []byte {
	for len(b)%n != 0 {
		b = append(b, 0)
	}
	return b
}

// tableOf are names one after the other, each once, and where they stand.
func tableOf(l []string) ([]byte, []uint64) {
	text, places := "\x00", []uint64{}
	for _, name := range l {
		at := 0
		if name != "" {
			at = strings.Index(text, "\x00"+name+"\x00") + 1
		}
		if at == 0 && name != "" {
			at = len(text)
			text += name + "\x00"
		}
		places = append(places, uint64(at))
	}
	return []byte(text), places
}

// plainBuild is what Build should answer: the parts one behind the other.
func plainBuild(s Spec) ([]byte, api.Errno) {
	if s.Kind != 2 && s.Kind != 3 ||
		slices.ContainsFunc(s.Defs, func(d Def) bool { return !slices.Contains([]int{0, 1, 2, 3}, d.Where) }) ||
		slices.ContainsFunc(s.Fixes, func(f Fix) bool { return f.Where != 1 && f.Where != 2 || f.Def > len(s.Defs)-1 }) {
		return nil, api.ErrArg
	}
	if s.Bss > 1048576 || s.TlsBss > 1048576 || len(s.Code)+len(s.Data)+len(s.Tls) > maxFile {
		return nil, api.ErrSize
	}
	names := slices.Concat([]string{s.Soname}, s.Needed)
	for _, d := range s.Defs {
		names = append(names, d.Name)
	}
	if strings.Contains(strings.Join(names, "."), "\x00") {
		return nil, api.ErrArg
	}
	table, places := tableOf(names)
	// The first pass tells where the parts begin, the second one writes their addresses.
	b, at := parts(s, table, places, starts{})
	if len(table) > maxFile || len(b) > maxFile {
		return nil, api.ErrSize
	}
	b, _ = parts(s, table, places, at)
	return b, api.OK
}

// starts are where the parts begin, and where those of the front and of the data end.
type starts struct{ entries, table, syms, relas, front, code, data, dataEnd, tls uint64 }

// parts are the bytes, given where the parts begin, and where they do.
func parts(s Spec, table []byte, places []uint64, given starts) ([]byte, starts) {
	var at starts
	here := func(b []byte) uint64 { return uint64(len(b)) }
	l := loads(s, given)
	entry := uint64(0)
	if len(s.Code) != 0 {
		entry = given.code + s.Entry
	}
	b := plainHead(uint64(s.Kind), entry, 64, uint64(len(l)))
	for _, x := range l {
		b = append(b, plainSeg(x)...)
	}
	at.entries = here(b)
	b = append(b, entries(s, table, places, given)...)
	at.table = here(b)
	b = pad(append(b, table...), 8)
	at.syms = here(b)
	for i, d := range s.Defs {
		if i == 0 {
			b = append(b, make([]byte, 24)...)
		}
		x := api.Sym{Name: uint32(places[1+len(s.Needed)+i]), Info: 16, Sect: 1}
		if d.Weak {
			x.Info = 32
		}
		x.Info += []byte{0, 2, 1, 6}[d.Where]
		x.Value = []uint64{0, given.code + d.Off, given.data + d.Off, d.Off}[d.Where]
		if d.Where == 0 {
			x.Sect = 0
		}
		b = append(b, plainSym(x)...)
	}
	at.relas = here(b)
	for _, f := range s.Fixes {
		b = append(b, plainRela(api.Rela{Off: []uint64{0, given.code, given.data}[f.Where] + f.Off, Type: f.Type, Sym: uint32(max(f.Def, -1) + 1), Add: f.Add})...)
	}
	at.front = here(b)
	all := pad(bytes.Clone(b), 256)
	at.code = here(all)
	if all = append(all, s.Code...); len(s.Code) > 0 {
		b = bytes.Clone(all)
	}
	all = pad(all, 256)
	at.data = here(all)
	if all = append(all, s.Data...); len(s.Data) > 0 {
		b = bytes.Clone(all)
	}
	all = pad(all, 8)
	at.tls = here(all)
	if all = append(all, s.Tls...); len(s.Tls) > 0 {
		b = all
	}
	at.dataEnd = max(here(b), at.data)
	return b, at
}

// loads are the segments, given where the parts begin.
func loads(s Spec, at starts) []api.Seg {
	l := []api.Seg{{Type: 1, Flags: 4, File: at.front, Mem: at.front, Align: 256}}
	if n := uint64(len(s.Code)); n > 0 {
		l = append(l, api.Seg{Type: 1, Flags: 5, Off: at.code, Vaddr: at.code, File: n, Mem: n, Align: 256})
	}
	switch n := at.dataEnd - at.data; {
	case len(s.Data) > 0 || len(s.Tls) > 0:
		l = append(l, api.Seg{Type: 1, Flags: 6, Off: at.data, Vaddr: at.data, File: n, Mem: n + s.Bss, Align: 256})
	case s.Bss > 0:
		l = append(l, api.Seg{Type: 1, Flags: 6, Off: 0, Vaddr: at.data, File: 0, Mem: s.Bss, Align: 256})
	}
	l = append(l, api.Seg{Type: 2, Flags: 4, Off: at.entries, Vaddr: at.entries, File: at.table - at.entries, Mem: at.table - at.entries, Align: 8})
	switch n := uint64(len(s.Tls)); {
	case n > 0:
		l = append(l, api.Seg{Type: 7, Flags: 4, Off: at.tls, Vaddr: at.tls, File: n, Mem: n + s.TlsBss, Align: 8})
	case s.TlsBss > 0:
		l = append(l, api.Seg{Type: 7, Flags: 4, Mem: s.TlsBss, Align: 8})
	}
	return l
}

// entries are the dynamic entries, given where the parts begin.
func entries(s Spec, table []byte, places []uint64, at starts) []byte {
	var b []byte
	for i := range s.Needed {
		b = append(b, le(8, 1, places[1+i])...)
	}
	if s.Soname != "" {
		b = append(b, le(8, 14, places[0])...)
	}
	b = append(b, le(8, 5, at.table, 10, uint64(len(table)))...)
	if n := len(s.Defs); n > 0 {
		b = append(b, le(8, 6, at.syms, 0x6000000d, uint64(n+1))...)
	}
	if n := len(s.Fixes); n > 0 {
		b = append(b, le(8, 7, at.relas, 8, uint64(24*n))...)
	}
	return append(b, le(8, 0, 0)...)
}

// asPlain fails the test unless Build answers what plainBuild does and, of an image, what was built is told; it tells whether it is one.
func asPlain(t *testing.T, s Spec) bool {
	t.Helper()
	want, err := plainBuild(s)
	builds(t, s, want, err)
	if err != api.OK {
		return false
	}
	return comesBack(t, s, want)
}

// comesBack fails the test if Parse accepts a file and tells others than the Spec's names (P9.3), and tells whether it accepts it.
func comesBack(t *testing.T, s Spec, file []byte) bool {
	t.Helper()
	x, e := Parse(file)
	if want, err := reckoned(file); !equal(x, want) || e != err {
		t.Fatalf("Parse of the file of %s: %s, %d; want %s, %d", short(s), short(x), e, short(want), err)
	}
	if e != api.OK {
		return false
	}
	var names []string
	for i, d := range s.Defs {
		if i == 0 {
			names = append(names, "") // of the zero entry
		}
		names = append(names, d.Name)
	}
	if x.Soname != s.Soname || !slices.Equal(x.Needed, s.Needed) || !slices.Equal(x.Names, names) || x.Head.Kind != s.Kind {
		t.Fatalf("Parse of the file of %s: %s", short(s), short(x))
	}
	return true
}

// P9.2: the chapter's examples.
func TestBuildExamples(t *testing.T) {
	if b := built(t, Spec{Kind: 3}); len(b) != 232 {
		t.Errorf("Build of nothing else: %d bytes", len(b))
	}
	builds(t, Spec{Kind: 4}, nil, api.ErrArg)
	s := Spec{Kind: head.Exe, Soname: "m", Needed: []string{"l"}, Entry: 8, Code: make([]byte, 16), Data: []byte("data"), Defs: []Def{{Name: "f", Where: Code}}}
	x, e := Parse(built(t, s))
	if e != api.OK || x.Soname != "m" || !slices.Equal(x.Needed, []string{"l"}) || len(x.Names) != 2 || x.Names[1] != "f" || len(x.Segs) != 4 {
		t.Errorf("Parse of what was built: %s, %d", short(x), e)
	}
}

// P9.2: a library without anything, all bytes written out.
func TestBuildNothing(t *testing.T) {
	builds(t, Spec{Kind: head.Lib}, slices.Concat(
		[]byte{127, 69, 76, 70, 2, 1, 1, 0, 0, 0, 0, 0, 0, 0, 0, 0}, []byte{3, 0, 111, 77, 1, 0, 0, 0},
		le(8, 0, 64, 0), []byte{0, 0, 0, 0, 64, 0, 56, 0, 2, 0, 0, 0, 0, 0, 0, 0},
		le(4, 1, 4), le(8, 0, 0, 0, 232, 232, 256),
		le(4, 2, 4), le(8, 176, 176, 176, 48, 48, 8),
		le(8, 5, 224, 10, 1, 0, 0),
		make([]byte, 8),
	), api.OK)
}

// P9.2: a program with all there is, all bytes written out.
func TestBuildBytes(t *testing.T) {
	s := Spec{
		Kind: head.Exe, Soname: "me", Needed: []string{"lib", "c"}, Entry: 4, Code: []byte{1, 2, 3, 4, 5, 6, 7, 8, 9},
		Data: []byte{11, 12, 13}, Bss: 100, Tls: []byte{21, 22}, TlsBss: 6,
		Defs:  []Def{{"f", Code, 4, false}, {"v", Data, 2, true}, {"t", Local, 5, false}, {"c", Nowhere, 9, true}, {"f", Nowhere, 0, false}},
		Fixes: []Fix{{Code, 1, 1, 0, -2}, {Data, 3, 8, -1, 5}, {Data, 8, 18, 4, 0}},
	}
	want := slices.Concat(
		[]byte{127, 69, 76, 70, 2, 1, 1, 0, 0, 0, 0, 0, 0, 0, 0, 0}, []byte{2, 0, 111, 77, 1, 0, 0, 0},
		le(8, 772, 64, 0), []byte{0, 0, 0, 0, 64, 0, 56, 0, 5, 0, 0, 0, 0, 0, 0, 0},
		// From 64 on the program headers.
		le(4, 1, 4), le(8, 0, 0, 0, 736, 736, 256),
		le(4, 1, 5), le(8, 768, 768, 768, 9, 9, 256),
		le(4, 1, 6), le(8, 1024, 1024, 1024, 10, 110, 256),
		le(4, 2, 4), le(8, 344, 344, 344, 160, 160, 8),
		le(4, 7, 4), le(8, 1032, 1032, 1032, 2, 8, 8),
		// From 344 on the dynamic entries.
		le(8, 1, 4, 1, 8, 14, 1, 5, 504, 10, 16, 6, 520, 0x6000000d, 6, 7, 664, 8, 72, 0, 0),
		// From 504 on the table.
		[]byte("\x00me\x00lib\x00c\x00f\x00v\x00t\x00"),
		// From 520 on the symbols.
		make([]byte, 24),
		[]byte{10, 0, 0, 0, 18, 0, 1, 0}, le(8, 772, 0),
		[]byte{12, 0, 0, 0, 33, 0, 1, 0}, le(8, 1026, 0),
		[]byte{14, 0, 0, 0, 22, 0, 1, 0}, le(8, 5, 0),
		[]byte{8, 0, 0, 0, 32, 0, 0, 0}, le(8, 0, 0),
		[]byte{10, 0, 0, 0, 16, 0, 0, 0}, le(8, 0, 0),
		// From 664 on the relocations.
		le(8, 769), le(4, 1, 1), le(8, last-1),
		le(8, 1027), le(4, 8, 0), le(8, 5),
		le(8, 1032), le(4, 18, 5), le(8, 0),
		// From 736 on the code at 768, the data at 1024 and the thread's block at 1032.
		make([]byte, 32), []byte{1, 2, 3, 4, 5, 6, 7, 8, 9},
		make([]byte, 247), []byte{11, 12, 13},
		make([]byte, 5), []byte{21, 22},
	)
	builds(t, s, want, api.OK)
	if !comesBack(t, s, want) {
		t.Error("the file is refused")
	}
}

// P9.2: each part with bytes and without, alone and with the others, with Defs and Fixes and without.
func TestBuildParts(t *testing.T) {
	fill := func(x byte, n int) []byte { return bytes.Repeat([]byte{x}, n) }
	var places []Def
	for i, where := range []int{Nowhere, Code, Data, Local} {
		for j, weak := range []bool{false, true} {
			places = append(places, Def{string(rune('a' + 2*i + j)), where, uint64(10*i + j), weak})
		}
	}
	fixes := []Fix{{Code, 0, 0, -1, 1}, {Data, 0, 0, -5, 2}, {Code, 7, 1, 0, 3}, {Data, 9, 6, 7, 4}}
	accepted := 0
	for _, n := range []int{0, 1, 7, 8, 255, 256, 257} {
		for _, m := range []int{0, 1, 8, 9, 256} {
			for _, k := range []int{0, 1, 8, 300} {
				for _, bss := range []uint64{0, 1, 1000} {
					for _, more := range []uint64{0, 1, 40} {
						s := Spec{Kind: head.Lib, Soname: "s", Needed: []string{"n"}, Entry: 3, Code: fill(1, n), Data: fill(2, m), Bss: bss, Tls: fill(3, k), TlsBss: more}
						if !asPlain(t, s) {
							t.Fatalf("%s is refused", short(s))
						}
						s.Defs = places
						if asPlain(t, s) {
							accepted++
						}
						s.Fixes = fixes
						asPlain(t, s)
						s.Defs, s.Fixes = nil, fixes[:2]
						asPlain(t, s)
					}
				}
			}
		}
	}
	if accepted < 100 {
		t.Errorf("%d files with Defs are accepted", accepted)
	}
}

// P9.2: where a file ends, and how many segments it has.
func TestBuildEnds(t *testing.T) {
	one := []byte{9}
	for _, c := range []struct {
		s          Spec
		size, segs int
	}{
		{Spec{}, 232, 2},
		{Spec{Code: one}, 513, 3}, // 288 bytes ahead of the code
		{Spec{Data: one}, 513, 3},
		{Spec{Tls: one}, 513, 4},
		{Spec{Bss: 1}, 288, 3},
		{Spec{TlsBss: 1}, 288, 3},
		{Spec{Bss: 1, TlsBss: 1}, 344, 4},
		{Spec{Code: one, Data: one}, 769, 4},
		{Spec{Code: one, Tls: one}, 769, 5},
		{Spec{Data: one, Tls: one}, 521, 4},
		{Spec{Code: one, Data: one, Tls: one}, 777, 5},
		{Spec{Code: one, Bss: 1}, 513, 4},
		{Spec{Code: one, Bss: 1, TlsBss: 1}, 513, 5},
		{Spec{Code: make([]byte, 256), Data: one}, 769, 4},
		{Spec{Code: make([]byte, 257), Data: one}, 1025, 4},
		{Spec{Data: make([]byte, 8), Tls: one}, 521, 4},
		{Spec{Data: make([]byte, 9), Tls: one}, 529, 4},
		{Spec{Soname: "abcdef"}, 248, 2},  // 64, 112, 64, and 8 bytes of names
		{Spec{Soname: "abcdefg"}, 256, 2}, // one more
		{Spec{Soname: strings.Repeat("a", 14)}, 256, 2},
		{Spec{Soname: strings.Repeat("a", 15)}, 264, 2},
		{Spec{Code: one, Soname: strings.Repeat("a", 200)}, 513, 3},
		{Spec{Code: one, Soname: strings.Repeat("a", 214)}, 513, 3},
		{Spec{Code: one, Soname: strings.Repeat("a", 215)}, 769, 3},
	} {
		c.s.Kind = head.Lib
		b := built(t, c.s)
		if len(b) != c.size || int(num(b, 56, 2)) != c.segs {
			t.Errorf("Build of %s: %d bytes and %d segments; want %d and %d", short(c.s), len(b), num(b, 56, 2), c.size, c.segs)
		}
		asPlain(t, c.s)
	}
}

// P9.2: where the data's and the thread's segments are that have no bytes in the file.
func TestBuildWithoutBytes(t *testing.T) {
	seg := func(s Spec, i int) api.Seg {
		s.Kind = head.Exe
		x, e := Parse(built(t, s))
		if e != api.OK {
			t.Fatalf("Parse of the file of %s: %d", short(s), e)
		}
		return x.Segs[i]
	}
	for _, c := range []struct {
		s    Spec
		i    int
		want api.Seg
	}{
		{Spec{Bss: 5}, 1, api.Seg{Type: 1, Flags: 6, Vaddr: 512, Mem: 5, Align: 256}},
		{Spec{Bss: 5, Code: []byte{1}}, 2, api.Seg{Type: 1, Flags: 6, Vaddr: 768, Mem: 5, Align: 256}},
		{Spec{Bss: 5, Code: make([]byte, 256)}, 2, api.Seg{Type: 1, Flags: 6, Vaddr: 768, Mem: 5, Align: 256}},
		{Spec{Bss: 5, Data: []byte{1}}, 1, api.Seg{Type: 1, Flags: 6, Off: 512, Vaddr: 512, File: 1, Mem: 6, Align: 256}},
		{Spec{Bss: 5, Tls: []byte{1}}, 1, api.Seg{Type: 1, Flags: 6, Off: 512, Vaddr: 512, File: 1, Mem: 6, Align: 256}},
		{Spec{Tls: []byte{1}}, 1, api.Seg{Type: 1, Flags: 6, Off: 512, Vaddr: 512, File: 1, Mem: 1, Align: 256}},
		{Spec{TlsBss: 5}, 2, api.Seg{Type: 7, Flags: 4, Mem: 5, Align: 8}},
		{Spec{TlsBss: 5, Data: []byte{1}}, 3, api.Seg{Type: 7, Flags: 4, Mem: 5, Align: 8}},
		{Spec{TlsBss: 5, Tls: []byte{1}}, 3, api.Seg{Type: 7, Flags: 4, Off: 512, Vaddr: 512, File: 1, Mem: 6, Align: 8}},
		{Spec{TlsBss: 5, Data: []byte{1}, Tls: []byte{1}}, 3, api.Seg{Type: 7, Flags: 4, Off: 520, Vaddr: 520, File: 1, Mem: 6, Align: 8}},
	} {
		if s := seg(c.s, c.i); s != c.want {
			t.Errorf("segment %d of %s: %v; want %v", c.i, short(c.s), s, c.want)
		}
	}
}

// P9.2: which kinds there may be.
func TestBuildKinds(t *testing.T) {
	for _, kind := range []int{math.MinInt, -1, 0, 1, 4, 5, 258, 1<<16 + 2, 1<<32 + 3, math.MaxInt} {
		s := full()
		s.Kind = kind
		builds(t, s, nil, api.ErrArg)
		builds(t, Spec{Kind: kind}, nil, api.ErrArg)
	}
	for _, kind := range []int{head.Exe, head.Lib} {
		s := full()
		s.Kind = kind
		if !asPlain(t, s) || !asPlain(t, Spec{Kind: kind}) {
			t.Errorf("the kind %d is refused", kind)
		}
	}
}

// P9.2: which places Defs and Fixes may have, and which Defs Fixes.
func TestBuildArg(t *testing.T) {
	wheres := []int{math.MinInt, -1, 0, 1, 2, 3, 4, 5, 256, 257, 1 << 32, 1<<32 + 1, math.MaxInt}
	for _, where := range wheres {
		for i := range 5 {
			s := full()
			s.Defs[i].Where = where
			if _, e := Build(s); (e == api.OK) != (where >= 0 && where <= 3) {
				t.Errorf("Build with a Def at %d: %d", where, e)
			}
			asPlain(t, s)
			s = full()
			s.Fixes[i].Where = where
			if _, e := Build(s); (e == api.OK) != (where == 1 || where == 2) {
				t.Errorf("Build with a Fix at %d: %d", where, e)
			}
			asPlain(t, s)
		}
	}
	for i := range 5 {
		for _, def := range []int{math.MinInt, math.MinInt + 1, -1 << 32, -2, -1, 0, 1, 4, 5, 6, 1<<32 - 1, 1 << 32, math.MaxInt} {
			s := full()
			s.Fixes[i].Def = def
			if _, e := Build(s); (e == api.OK) != (def < 5) {
				t.Errorf("Build with a Fix of the Def %d: %d", def, e)
			}
			asPlain(t, s)
		}
	}
	// Without Defs only those below 0 may be.
	builds(t, Spec{Kind: head.Lib, Fixes: []Fix{{Code, 0, 8, 0, 0}}}, nil, api.ErrArg)
	asPlain(t, Spec{Kind: head.Lib, Fixes: []Fix{{Code, 0, 8, -1, 0}}})
	asPlain(t, Spec{Kind: head.Lib, Fixes: []Fix{{Code, 0, 0, -1, 0}}})
}

// P9.2: Bss and TlsBss up to 2^20.
func TestBuildBss(t *testing.T) {
	all := full()
	all.Defs[2].Off = 3 // at the end of a thread's block that has no TlsBss
	for _, base := range []Spec{{Kind: head.Lib}, all} {
		for _, n := range []uint64{0, 1, 2, 255, 256, 1<<20 - 1, 1 << 20} {
			for _, m := range []uint64{0, 1, 1 << 20} {
				s := base
				s.Bss, s.TlsBss = n, m
				if !asPlain(t, s) {
					t.Errorf("Bss %d and TlsBss %d are refused", n, m)
				}
				s.Bss, s.TlsBss = m, n
				if !asPlain(t, s) {
					t.Errorf("Bss %d and TlsBss %d are refused", m, n)
				}
			}
		}
		for _, n := range []uint64{1<<20 + 1, 1<<20 + 256, 1 << 32, 1<<32 + 1, 1 << 63, last} {
			s := base
			s.Bss, s.TlsBss = n, 0
			builds(t, s, nil, api.ErrSize)
			s.Bss, s.TlsBss = 0, n
			builds(t, s, nil, api.ErrSize)
			s.Bss, s.TlsBss = n, n
			builds(t, s, nil, api.ErrSize)
		}
	}
}

// P9.2: Code, Data and Tls of 65536 bytes together, and one more; what such a file would have is told behind the names.
func TestBuildTogether(t *testing.T) {
	for _, c := range [][3]int{{1, 0, 0}, {0, 1, 0}, {0, 0, 1}, {1, 1, 0}, {1, 0, 1}, {0, 1, 1}, {1, 1, 1}, {5, 2, 1}} {
		for _, over := range []int{0, 1} {
			total := maxFile + over
			sum := c[0] + c[1] + c[2]
			n, m := total*c[0]/sum, total*c[1]/sum
			k := total - n - m
			if c[2] == 0 && c[1] == 0 {
				n, k = total, 0
			} else if c[2] == 0 {
				m, k = total-n, 0
			}
			s := Spec{Kind: head.Exe, Code: make([]byte, n), Data: make([]byte, m), Tls: make([]byte, k), Needed: []string{"a\x00b"}}
			err := api.ErrArg
			if over == 1 {
				err = api.ErrSize
			}
			builds(t, s, nil, err)
			s.Needed = nil
			builds(t, s, nil, api.ErrSize)
		}
	}
}

// P9.2: names with a byte 0, at each place among the names.
func TestBuildNames(t *testing.T) {
	for _, name := range []string{"\x00", "a\x00", "\x00a", "a\x00b", "libm\x00"} {
		for i := range 8 {
			s := full()
			switch {
			case i == 0:
				s.Soname = name
			case i < 3:
				s.Needed[i-1] = name
			default:
				s.Defs[i-3].Name = name
			}
			builds(t, s, nil, api.ErrArg)
		}
	}
	// The same name twice, of any two.
	s := full()
	for i := range s.Defs {
		s.Defs[i].Name = "libm"
	}
	s.Soname, s.Needed = "libm", []string{"libm", "libm"}
	if !asPlain(t, s) {
		t.Error("the same name for all is refused")
	}
	// Names that are pieces of others have places of their own.
	s.Soname, s.Needed, s.Defs[0].Name = "bm", []string{"m", "libmm"}, "ib"
	if !asPlain(t, s) {
		t.Error("pieces of names are refused")
	}
	s.Soname = "é\xff\x01"
	if !asPlain(t, s) {
		t.Error("bytes of other kinds are refused")
	}
}

// P9.2: without a Soname, and empty names of what is needed and of Defs, which Parse refuses.
func TestBuildEmptyNames(t *testing.T) {
	for _, needed := range [][]string{nil, {"a"}, {"a", "b", "a"}} {
		s := full()
		s.Soname, s.Needed = "", needed
		if !asPlain(t, s) {
			t.Errorf("no Soname with %q is refused", needed)
		}
		if !asPlain(t, Spec{Kind: head.Lib, Needed: needed}) {
			t.Errorf("no Soname with %q alone is refused", needed)
		}
		s.Soname = "b"
		if !asPlain(t, s) {
			t.Errorf("a Soname with %q is refused", needed)
		}
	}
	for _, needed := range [][]string{{""}, {"a", ""}, {"", "a"}} {
		if asPlain(t, Spec{Kind: head.Lib, Needed: needed}) {
			t.Errorf("%q is accepted", needed)
		}
	}
	if asPlain(t, Spec{Kind: head.Lib, Defs: []Def{{}}}) {
		t.Error("a Def without a name is accepted")
	}
}

// P9.2: files of 65536 bytes and of one more, by each part.
func TestBuildGreat(t *testing.T) {
	for _, c := range []struct {
		what string
		make func(n int) Spec
		n    int // with which there are at most 65536 bytes
	}{
		{"code", func(n int) Spec { return Spec{Code: make([]byte, n)} }, maxFile - 512},
		{"data", func(n int) Spec { return Spec{Data: make([]byte, n)} }, maxFile - 512},
		{"block", func(n int) Spec { return Spec{Tls: make([]byte, n)} }, maxFile - 512},
		{"data behind code", func(n int) Spec { return Spec{Code: make([]byte, 1000), Data: make([]byte, n)} }, maxFile - 1536},
		{"block behind data", func(n int) Spec { return Spec{Data: make([]byte, 1001), Tls: make([]byte, n)} }, maxFile - 512 - 1008},
		{"a long name", func(n int) Spec { return Spec{Soname: strings.Repeat("a", n)} }, maxFile - 64 - 112 - 64 - 2},
		{"libraries", func(n int) Spec { return Spec{Needed: slices.Repeat([]string{"lib"}, n)} }, (maxFile - 232) / 16},
		{"libraries without names", func(n int) Spec { return Spec{Needed: make([]string, n)} }, (maxFile - 232) / 16},
		{"symbols", func(n int) Spec { return Spec{Defs: slices.Repeat([]Def{{Name: "f"}}, n)} }, (maxFile - 264 - 24) / 24},
		{"relocations", func(n int) Spec { return Spec{Fixes: slices.Repeat([]Fix{{Code, 0, 0, -1, 0}}, n)} }, (maxFile - 264) / 24},
	} {
		t.Run(c.what, func(t *testing.T) {
			for n := c.n - 3; n <= c.n; n++ {
				s := c.make(n)
				s.Kind = head.Lib
				asPlain(t, s)
				if b := built(t, s); len(b) > maxFile || n == c.n && len(b) < maxFile-24 {
					t.Errorf("%d bytes with %d", len(b), n)
				}
			}
			for _, n := range []int{c.n + 1, c.n + 2, c.n + 100} {
				s := c.make(n)
				s.Kind = head.Lib
				builds(t, s, nil, api.ErrSize)
			}
		})
	}
	for _, size := range []int{maxFile, maxFile + 1, maxFile + 2} {
		s := Spec{Kind: head.Exe, Code: make([]byte, size-512), Bss: 1 << 20}
		if b, e := Build(s); size == maxFile && (len(b) != maxFile || e != api.OK) || size > maxFile && (len(b) != 0 || e != api.ErrSize) {
			t.Errorf("Build for %d bytes: %d, %d", size, len(b), e)
		}
	}
}

// P9.2: many names, symbols and relocations, far more than a file has room for.
func TestBuildTooMany(t *testing.T) {
	builds(t, Spec{Kind: head.Lib, Needed: make([]string, 200000)}, nil, api.ErrSize)
	builds(t, Spec{Kind: head.Lib, Defs: make([]Def, 200000)}, nil, api.ErrSize)
	builds(t, Spec{Kind: head.Lib, Fixes: slices.Repeat([]Fix{{Where: Code, Def: -1}}, 200000)}, nil, api.ErrSize)
	builds(t, Spec{Kind: head.Lib, Soname: strings.Repeat("a", 1<<20)}, nil, api.ErrSize)
	// Parse reads 1024 symbols at most.
	for n := 1022; n < 1026; n++ {
		s := Spec{Kind: head.Lib, Defs: slices.Repeat([]Def{{Name: "f"}}, n)}
		if accepted := asPlain(t, s); accepted != (n <= 1023) {
			t.Errorf("%d Defs: accepted %t", n, accepted)
		}
	}
}

// P9.2: Entry with code and without, modulo 2^64.
func TestBuildEntry(t *testing.T) {
	for _, entry := range []uint64{0, 1, 8, 511, 1 << 32, 1 << 63, last - 511, last} {
		for _, s := range []Spec{{}, {Data: []byte{1}}, {Code: []byte{1}}, {Code: make([]byte, 300), Tls: []byte{1}}, full()} {
			s.Kind, s.Entry = head.Exe, entry
			want := uint64(0)
			x, e := Parse(built(t, s))
			if len(s.Code) > 0 {
				want = x.Segs[1].Vaddr + entry
			}
			if e != api.OK || x.Head.Entry != want {
				t.Errorf("Entry %d of %s: %d, %d; want %d", entry, short(s), x.Head.Entry, e, want)
			}
			asPlain(t, s)
		}
	}
}

// P9.2: Defs of each place, weak and others, with offsets up to 2^64, with the parts' bytes and without.
func TestBuildDefs(t *testing.T) {
	for _, base := range []Spec{{}, {Code: []byte{1}}, {Data: []byte{1}}, {Tls: []byte{1}}, {Bss: 7}, {TlsBss: 7}, {Code: make([]byte, 256), Data: make([]byte, 9), Tls: []byte{1}}} {
		base.Kind = head.Lib
		for where := range 4 {
			for _, weak := range []bool{false, true} {
				for _, off := range []uint64{0, 1, 7, 8, 1000, 1<<32 - 512, 1<<32 - 511, 1 << 63, last - 511, last} {
					s := base
					s.Defs = []Def{{"x", where, off, weak}}
					asPlain(t, s)
					s.Defs = []Def{{"x", Code, 1, false}, {"y", where, off, weak}, {"z", Nowhere, 2, true}}
					asPlain(t, s)
				}
			}
		}
	}
	// Without bytes of code or data their places are where they would begin.
	b := built(t, Spec{Kind: head.Lib, Defs: []Def{{"a", Code, 5, false}, {"b", Data, 6, false}, {"c", Local, 7, false}, {"d", Nowhere, 8, false}}, Fixes: []Fix{{Code, 3, 0, -1, 0}, {Data, 4, 0, -1, 0}}})
	// 64 and 112 bytes, seven entries, and nine bytes of names with their padding stand ahead of the symbols.
	at := uint64(64 + 112 + 7*16 + 16)
	var got []uint64
	for i := range uint64(5) {
		got = append(got, num(b, at+24*i+8, 8))
	}
	for i := range uint64(2) {
		got = append(got, num(b, at+120+24*i, 8))
	}
	if !slices.Equal(got, []uint64{0, 517, 518, 7, 0, 515, 516}) {
		t.Errorf("addresses without bytes: %d", got)
	}
}

// P9.2: Fixes of both places, of each type, with numbers up to 2^64.
func TestBuildFixes(t *testing.T) {
	defs := []Def{{"f", Code, 0, false}, {"v", Data, 0, false}, {"t", Local, 0, false}}
	for _, base := range []Spec{{}, {Code: make([]byte, 20)}, {Data: make([]byte, 20)}, {Code: make([]byte, 20), Data: make([]byte, 20), Tls: []byte{1}}} {
		base.Kind, base.Defs = head.Exe, defs
		for _, where := range []int{Code, Data} {
			for _, off := range []uint64{0, 12, 13, 1 << 32, last} {
				for _, kind := range []uint32{0, 1, 2, 8, 17, 1 << 31, math.MaxUint32} {
					for def := -2; def < 3; def++ {
						for _, add := range []int64{0, -1, math.MinInt64, math.MaxInt64} {
							s := base
							s.Fixes = []Fix{{where, off, kind, def, add}}
							asPlain(t, s)
						}
					}
				}
			}
		}
	}
}

// wrong is what may be wrong with a Spec.
type wrong struct {
	what   string
	about  string // no two about the same can be in one Spec
	err    api.Errno
	change func(s *Spec)
}

// wrongs are in the order in which they are told; what is told at once has the same error.
func wrongs() []wrong {
	return []wrong{
		{"another kind", "kind", api.ErrArg, func(s *Spec) { s.Kind = head.Core }},
		{"a Def elsewhere", "def", api.ErrArg, func(s *Spec) { s.Defs[4].Where = 4 }},
		{"a Fix elsewhere", "fix", api.ErrArg, func(s *Spec) { s.Fixes[4].Where = Local }},
		{"a Fix of no Def", "fix", api.ErrArg, func(s *Spec) { s.Fixes[4].Def = 5 }},
		{"too much Bss", "bss", api.ErrSize, func(s *Spec) { s.Bss = 1<<20 + 1 }},
		{"too much TlsBss", "more bss", api.ErrSize, func(s *Spec) { s.TlsBss = 1<<20 + 1 }},
		{"too many bytes", "code", api.ErrSize, func(s *Spec) { s.Code = make([]byte, maxFile-29) }},
		{"a byte 0", "name", api.ErrArg, func(s *Spec) { s.Defs[4].Name = "\x00" }},
		{"too long names", "soname", api.ErrSize, func(s *Spec) { s.Soname = strings.Repeat("s", maxFile) }},
		{"too great a file", "code", api.ErrSize, func(s *Spec) { s.Code = make([]byte, maxFile-30) }},
	}
}

// P9.2: each error alone, and of two the one that comes first.
func TestBuildTwoWrongs(t *testing.T) {
	l := wrongs()
	for i, f := range l {
		s := full()
		f.change(&s)
		builds(t, s, nil, f.err)
		for _, g := range l[i+1:] {
			if f.about == g.about {
				continue
			}
			t.Run(f.what+" and "+g.what, func(t *testing.T) {
				s := full()
				f.change(&s)
				g.change(&s)
				builds(t, s, nil, f.err)
			})
		}
	}
}

// P9.2, P9.3: Specs of any kind, most of which Parse accepts.
func TestBuildStirred(t *testing.T) {
	next := stir(11)
	accepted := 0
	some := func(n int) []byte {
		b := make([]byte, max(0, next(n)-n/4))
		for i := range b {
			b[i] = byte(next(256))
		}
		return b
	}
	name := func() string { return []string{"a", "b", "lib", "libm", "m", "x", "yy", "é"}[next(8)] }
	for range 8000 {
		s := Spec{Kind: 2 + next(2), Entry: uint64(next(9)), Code: some(600), Data: some(300), Bss: uint64(max(0, next(600)-300)), Tls: some(40), TlsBss: uint64(max(0, next(40)-20))}
		if next(3) > 0 {
			s.Soname = name()
		}
		for range next(4) {
			s.Needed = append(s.Needed, name())
		}
		for range next(6) {
			s.Defs = append(s.Defs, Def{name(), next(4), uint64(next(30)), next(2) == 0})
		}
		for range next(5) {
			f := Fix{1 + next(2), uint64(next(300)), []uint32{0, 1, 6, 8, 17}[next(5)], next(len(s.Defs)+1) - 1, int64(next(99)) - 50}
			if f.Type == 0 || f.Type == 8 {
				f.Def = -1 - next(3)
			}
			s.Fixes = append(s.Fixes, f)
		}
		if asPlain(t, s) {
			accepted++
		}
	}
	if accepted < 1500 || accepted > 7500 {
		t.Errorf("%d files of 8000 are accepted", accepted)
	}
}

// P9.2: a file is in new memory, and the Spec stays as it is.
func TestBuildNewMemory(t *testing.T) {
	s := full()
	kept := copiedSpec(s)
	a, b := built(t, s), built(t, s)
	want := bytes.Clone(a)
	clear(a)
	a = append(a, 1)
	if !bytes.Equal(b, want) || !equalSpec(s, kept) {
		t.Error("a change of a file changed another one or its Spec")
	}
	clear(s.Code)
	clear(s.Data)
	clear(s.Tls)
	clear(s.Defs)
	clear(s.Fixes)
	clear(s.Needed)
	if !bytes.Equal(b, want) {
		t.Error("a change of a Spec changed its file")
	}
	builds(t, kept, want, api.OK)
}

// P9.2: a Spec whose slices have room behind them, which stays as it is.
func TestBuildRoom(t *testing.T) {
	s := full()
	room := copiedSpec(s)
	behind := bytes.Repeat([]byte{99}, 500)
	room.Code = append(room.Code, behind...)[:len(s.Code)]
	room.Data = append(room.Data, behind...)[:len(s.Data)]
	room.Tls = append(room.Tls, behind...)[:len(s.Tls)]
	room.Needed = append(room.Needed, "one", "two", "three")[:len(s.Needed)]
	builds(t, room, built(t, s), api.OK)
	for _, b := range [][]byte{room.Code, room.Data, room.Tls} {
		if !bytes.Equal(b[len(b):len(b)+500], behind) {
			t.Error("Build wrote behind the bytes of its Spec")
		}
	}
	if n := len(s.Needed); !slices.Equal(room.Needed[n:n+3], []string{"one", "two", "three"}) {
		t.Error("Build wrote behind the names of its Spec")
	}
}

// P9.3: what Build answers for the Spec with all there is, as Parse tells it.
func TestComesBack(t *testing.T) {
	s := full()
	x, e := Parse(built(t, s))
	if e != api.OK || x.Soname != "me" || !slices.Equal(x.Needed, []string{"libm", "c"}) || !slices.Equal(x.Names, []string{"", "f", "v", "t", "u", "c"}) {
		t.Fatalf("Parse of what was built: %s, %d", short(x), e)
	}
	if len(x.Segs) != 5 || len(x.Syms) != 6 || len(x.Relas) != 5 || x.Head.Kind != head.Exe || x.Head.Count != 5 {
		t.Fatalf("Parse of what was built: %s", short(x))
	}
	if x.Relas[1] != (api.Rela{Off: x.Segs[1].Vaddr + 32, Type: 8, Add: 7}) || x.Syms[2] != (api.Sym{Name: x.Syms[2].Name, Info: 33, Sect: 1, Value: x.Segs[2].Vaddr + 16}) {
		t.Fatalf("Parse of what was built: %s", short(x))
	}
}
