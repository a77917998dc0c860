package rela

import (
	"bytes"
	"encoding/binary"
	"math"
	"slices"
	"testing"

	"dormouse/api"
)

// last is the greatest number of 64 bits.
const last = uint64(math.MaxUint64)

// shown is the entry of the chapter's examples.
var shown = api.Rela{Off: 3, Type: Abs, Sym: 2, Add: -1}

// greatest is the entry whose bits are all set.
var greatest = api.Rela{Off: last, Type: math.MaxUint32, Sym: math.MaxUint32, Add: -1}

// counted is an entry whose bytes are 1, 2, 3 and so on.
var counted = api.Rela{Off: 0x0807060504030201, Type: 0x0c0b0a09, Sym: 0x100f0e0d, Add: 0x1817161514131211}

// kinds are the types that there are.
var kinds = []uint32{0, 1, 6, 7, 8, 16, 17, 18}

// fields are how many fields an entry has.
const fields = 4

// with is an entry with another number in one of its fields, in the order of the bytes.
func with(r api.Rela, field int, x uint64) api.Rela {
	switch field {
	case 0:
		r.Off = x
	case 1:
		r.Type = uint32(x)
	case 2:
		r.Sym = uint32(x)
	case 3:
		r.Add = int64(x)
	}
	return r
}

// bits is how many bits each field has.
func bits(field int) int { return []int{64, 32, 32, 64}[field] }

// numbers are some that the fields may be.
func numbers() []uint64 {
	return []uint64{0, 1, 2, 6, 8, 18, 255, 256, 257, 1<<31 - 1, 1 << 31, 1<<32 - 1, 1 << 32, 1<<63 - 1, 1 << 63, 1<<63 + 1, last - 1, last, 0x0123456789abcdef, 0xfedcba9876543210}
}

// some are entries with numbers of each kind in their fields.
func some() []api.Rela {
	l := []api.Rela{{}, shown, greatest, counted}
	x := numbers()
	for i := range x {
		for j := range x {
			r := api.Rela{}
			for field := range fields {
				r = with(r, field, x[(i+field*j)%len(x)])
			}
			l = append(l, r)
		}
	}
	return l
}

// plain are the bytes of an entry, each number laid at its own index.
func plain(r api.Rela) []byte {
	b := make([]byte, 24)
	little := binary.LittleEndian
	little.PutUint64(b, r.Off)
	little.PutUint32(b[8:], r.Type)
	little.PutUint32(b[12:], r.Sym)
	little.PutUint64(b[16:], uint64(r.Add))
	return b
}

// plains are the bytes of entries, one behind the other.
func plains(l ...api.Rela) []byte {
	var b []byte
	for _, r := range l {
		b = append(b, plain(r)...)
	}
	return b
}

// told are the entries that Table should tell of whole ones.
func told(b []byte) []api.Rela {
	var l []api.Rela
	little := binary.LittleEndian
	for ; len(b) > 0; b = b[24:] {
		l = append(l, api.Rela{
			Off:  little.Uint64(b),
			Type: little.Uint32(b[8:]),
			Sym:  little.Uint32(b[12:]),
			Add:  int64(little.Uint64(b[16:])),
		})
	}
	return l
}

// stirred are so many bytes that look like no rule.
func stirred(n int, x uint64) []byte {
	b := make([]byte, n)
	for i := range b {
		x = x*6364136223846793005 + 1442695040888963407
		b[i] = byte(x >> 56)
	}
	return b
}

// wants fails the test unless Table answers this, and leaves the bytes as they are.
func wants(t *testing.T, b []byte, l []api.Rela, err api.Errno) {
	t.Helper()
	kept := bytes.Clone(b)
	if got, e := Table(b); !slices.Equal(got, l) || e != err {
		t.Fatalf("Table of % x: %v, %d; want %v, %d", b, got, e, l, err)
	}
	if !bytes.Equal(b, kept) {
		t.Fatalf("Table changed its bytes from % x to % x", kept, b)
	}
}

// puts fails the test unless Put answers these bytes, and Table tells the entry of them.
func puts(t *testing.T, r api.Rela, want []byte) {
	t.Helper()
	if b := Put(r); !bytes.Equal(b, want) {
		t.Fatalf("Put of %v: % x; want % x", r, b, want)
	}
	wants(t, want, []api.Rela{r}, api.OK)
}

// P7.1, P7.2: the constants that the chapter gives.
func TestConstants(t *testing.T) {
	if Size != 24 {
		t.Error(Size)
	}
	if got := []uint32{None, Abs, Got, Slot, Relative, Module, Within, Thread}; !slices.Equal(got, kinds) {
		t.Error(got)
	}
}

// P7.1: all 24 bytes, written out.
func TestBytes(t *testing.T) {
	puts(t, api.Rela{}, make([]byte, 24))
	puts(t, shown, []byte{
		3, 0, 0, 0, 0, 0, 0, 0,
		1, 0, 0, 0, 2, 0, 0, 0,
		255, 255, 255, 255, 255, 255, 255, 255,
	})
	puts(t, counted, []byte{
		0x01, 0x02, 0x03, 0x04, 0x05, 0x06, 0x07, 0x08,
		0x09, 0x0a, 0x0b, 0x0c, 0x0d, 0x0e, 0x0f, 0x10,
		0x11, 0x12, 0x13, 0x14, 0x15, 0x16, 0x17, 0x18,
	})
	puts(t, greatest, bytes.Repeat([]byte{255}, 24))
	puts(t, api.Rela{Off: 1 << 63, Type: 1 << 31, Sym: 1, Add: math.MinInt64}, []byte{
		0, 0, 0, 0, 0, 0, 0, 128,
		0, 0, 0, 128, 1, 0, 0, 0,
		0, 0, 0, 0, 0, 0, 0, 128,
	})
	puts(t, api.Rela{Off: 1 << 32, Type: 1, Sym: 1 << 31, Add: math.MaxInt64}, []byte{
		0, 0, 0, 0, 1, 0, 0, 0,
		1, 0, 0, 0, 0, 0, 0, 128,
		255, 255, 255, 255, 255, 255, 255, 127,
	})
	puts(t, api.Rela{Off: 0x100, Type: Thread, Sym: 0x10000, Add: -256}, []byte{
		0, 1, 0, 0, 0, 0, 0, 0,
		18, 0, 0, 0, 0, 0, 1, 0,
		0, 255, 255, 255, 255, 255, 255, 255,
	})
}

// P7.1: each field alone at its greatest fills its own bytes and no others.
func TestFieldsAlone(t *testing.T) {
	for field, place := range [][2]int{{0, 8}, {8, 12}, {12, 16}, {16, 24}} {
		alone := make([]byte, 24)
		others := bytes.Repeat([]byte{255}, 24)
		for at := place[0]; at < place[1]; at++ {
			alone[at], others[at] = 255, 0
		}
		puts(t, with(api.Rela{}, field, last), alone)
		puts(t, with(greatest, field, 0), others)
	}
}

// P7.1: each bit of each field has its own place.
func TestEachBit(t *testing.T) {
	for field := range fields {
		for bit := range bits(field) {
			for _, r := range []api.Rela{
				with(api.Rela{}, field, 1<<bit), with(shown, field, 1<<bit),
				with(greatest, field, ^(1 << bit)), with(counted, field, ^(1 << bit)),
			} {
				puts(t, r, plain(r))
			}
		}
	}
}

// P7.1: the second word is Type + 2^32 * Sym, whatever both are.
func TestTypeAndSym(t *testing.T) {
	few := []uint32{0, 1, 2, 18, 255, 256, 1<<16 - 1, 1 << 16, 1<<31 - 1, 1 << 31, math.MaxUint32 - 1, math.MaxUint32}
	for _, kind := range few {
		for _, sym := range few {
			sum := uint64(kind) + uint64(sym)*4294967296
			for _, r := range []api.Rela{{}, shown, greatest, counted} {
				r.Type, r.Sym = kind, sym
				want := plain(r)
				binary.LittleEndian.PutUint64(want[8:], sum)
				puts(t, r, want)
			}
		}
	}
}

// P7.1: Add modulo 2^64, at its least and at its greatest and near 0.
func TestAdd(t *testing.T) {
	for add, want := range map[int64]uint64{
		0: 0, 1: 1, -1: last, 2: 2, -2: last - 1, 255: 255, 256: 256, -256: last - 255,
		math.MaxInt64: 1<<63 - 1, math.MinInt64: 1 << 63, math.MinInt64 + 1: 1<<63 + 1,
		math.MaxInt32: 1<<31 - 1, math.MinInt32: last - 1<<31 + 1, -1 << 32: last - 1<<32 + 1,
	} {
		for _, r := range []api.Rela{{}, shown, greatest, counted} {
			r.Add = add
			b := plain(r)
			binary.LittleEndian.PutUint64(b[16:], want)
			puts(t, r, b)
		}
	}
}

// P7.1: numbers of each kind in all fields, held against bytes laid at their indices.
func TestPutEverywhere(t *testing.T) {
	for _, r := range some() {
		puts(t, r, plain(r))
	}
}

// P7.1: no bytes, those of one entry and of two; the chapter's example.
func TestTableExamples(t *testing.T) {
	wants(t, nil, nil, api.OK)
	wants(t, []byte{}, nil, api.OK)
	wants(t, make([]byte, 24), []api.Rela{{}}, api.OK)
	wants(t, make([]byte, 48), []api.Rela{{}, {}}, api.OK)
	wants(t, Put(api.Rela{Off: 3, Type: Abs, Sym: 2, Add: -1}), []api.Rela{{Off: 3, Type: Abs, Sym: 2, Add: -1}}, api.OK)
	wants(t, slices.Concat(Put(api.Rela{}), Put(shown)), []api.Rela{{}, shown}, api.OK)
	wants(t, slices.Concat(Put(shown), Put(counted)), []api.Rela{shown, counted}, api.OK)
}

// P7.1: ErrRange of each length that is no multiple of 24, whatever the bytes are and whatever lies behind their end.
func TestTableLengths(t *testing.T) {
	lengths := []int{}
	for n := range 250 {
		lengths = append(lengths, n, 24*256-125+n, 24*1000-125+n, 1<<16-125+n)
	}
	slices.Sort(lengths)
	accepted := 0
	for _, fill := range []byte{0, 1, 24, 255} {
		whole := bytes.Repeat([]byte{fill}, lengths[len(lengths)-1]+50)
		for _, n := range lengths {
			for _, b := range [][]byte{whole[:n], whole[:n:n], whole[50 : 50+n]} {
				if n%24 != 0 {
					wants(t, b, nil, api.ErrRange)
					continue
				}
				accepted++
				wants(t, b, told(b), api.OK)
			}
		}
	}
	if accepted < 400 {
		t.Errorf("only %d lengths were multiples", accepted)
	}
}

// P7.1: bytes that make entries, but for the last or the first ones, are no table.
func TestTableCut(t *testing.T) {
	whole := plains(api.Rela{}, shown, greatest, counted)
	for n := range whole {
		if n%24 == 0 {
			wants(t, whole[:n], told(whole[:n]), api.OK)
			wants(t, whole[n:], told(whole[n:]), api.OK)
			continue
		}
		wants(t, whole[:n], nil, api.ErrRange)
		wants(t, bytes.Clone(whole[:n]), nil, api.ErrRange)
		wants(t, whole[n:], nil, api.ErrRange)
	}
}

// P7.1: each byte of a table, changed to every value, is told and nothing is wrong with it.
func TestTableEachByte(t *testing.T) {
	b := plains(api.Rela{}, counted, greatest)
	for at := range b {
		kept := b[at]
		for c := range 256 {
			b[at] = byte(c)
			wants(t, b, told(b), api.OK)
		}
		b[at] = kept
	}
}

// P7.1: bytes of any kind.
func TestTableAnyBytes(t *testing.T) {
	for n := range uint64(40) {
		for seed := range uint64(20) {
			b := stirred(int(24*n), 100*n+seed)
			wants(t, b, told(b), api.OK)
		}
	}
}

// P7.1: what lies ahead of the slice and behind it doesn't count.
func TestTableAround(t *testing.T) {
	inside := plains(api.Rela{}, shown, counted)
	for ahead := range 50 {
		for _, fill := range []byte{0, 1, 255} {
			around := bytes.Repeat([]byte{fill}, 200)
			copy(around[ahead:], inside)
			end := ahead + len(inside)
			wants(t, around[ahead:end], []api.Rela{{}, shown, counted}, api.OK)
			wants(t, around[ahead:end:end], []api.Rela{{}, shown, counted}, api.OK)
			wants(t, around[ahead:ahead+24], []api.Rela{{}}, api.OK)
			wants(t, around[ahead+24:ahead+48], []api.Rela{shown}, api.OK)
			wants(t, around[ahead:ahead], nil, api.OK)
		}
	}
}

// P7.1: many entries, in their order.
func TestTableMany(t *testing.T) {
	var l []api.Rela
	for i := range uint64(5000) {
		l = append(l, api.Rela{Off: i << 40, Type: uint32(i * i), Sym: uint32(7 * i), Add: -int64(i)})
	}
	wants(t, plains(l...), l, api.OK)
}

// reckoned is what Check should answer, of each entry by the three rules alone.
func reckoned(l []api.Rela, symbols int) api.Errno {
	for _, r := range l {
		bare := r.Type == 0 || r.Type == 8
		switch {
		case !slices.Contains(kinds, r.Type):
			return api.ErrReloc
		case r.Sym > 0 && symbols <= 0:
			return api.ErrRange
		case r.Sym > 0 && uint64(r.Sym) > uint64(symbols)-1:
			return api.ErrRange
		case r.Sym == 0 && !bare:
			return api.ErrForm
		case r.Sym > 0 && bare:
			return api.ErrForm
		}
	}
	return api.OK
}

// checks fails the test unless Check answers this, and leaves the list as it is.
func checks(t *testing.T, err api.Errno, symbols int, l ...api.Rela) {
	t.Helper()
	kept := slices.Clone(l)
	if e := Check(l, symbols); e != err {
		t.Fatalf("Check of %v with %d symbols: %d; want %d", l, symbols, e, err)
	}
	if !slices.Equal(l, kept) {
		t.Fatalf("Check changed its list from %v to %v", kept, l)
	}
}

// everywhere fails the test unless Check answers this of an entry, wherever that stands among good ones.
func everywhere(t *testing.T, err api.Errno, symbols int, r api.Rela) {
	t.Helper()
	good := []api.Rela{{}, {Off: 9, Type: Relative, Add: 5}, {Type: None, Add: -1}, {Off: last, Type: Relative}}
	if symbols > 1 {
		good = append(good, api.Rela{Type: Abs, Sym: 1}, api.Rela{Type: Thread, Sym: uint32(min(symbols-1, math.MaxUint32))})
	}
	checks(t, api.OK, symbols, good...)
	checks(t, err, symbols, r)
	checks(t, err, symbols, r, r)
	for at := range len(good) + 1 {
		checks(t, err, symbols, slices.Insert(slices.Clone(good), at, r)...)
	}
}

// P7.2: no entry, with any number of symbols; the chapter's examples.
func TestCheckExamples(t *testing.T) {
	for _, symbols := range []int{0, 1, 3, -1, math.MinInt, math.MaxInt} {
		checks(t, api.OK, symbols)
		if e := Check(nil, symbols); e != api.OK {
			t.Error(e)
		}
		if e := Check([]api.Rela{}, symbols); e != api.OK {
			t.Error(e)
		}
	}
	checks(t, api.OK, 3, shown)
	checks(t, api.ErrRange, 2, shown)
	checks(t, api.ErrReloc, 3, api.Rela{Type: 2})
	checks(t, api.ErrReloc, 2, api.Rela{Off: 3, Type: 2, Sym: 2, Add: -1})
}

// P7.2: the eight types, with a symbol and without one.
func TestCheckTypes(t *testing.T) {
	for _, kind := range kinds {
		without, one := api.ErrForm, api.OK
		if kind == 0 || kind == 8 {
			without, one = api.OK, api.ErrForm
		}
		everywhere(t, without, 5, api.Rela{Type: kind})
		everywhere(t, without, 5, api.Rela{Off: last, Type: kind, Add: math.MinInt64})
		for sym := range uint32(4) {
			everywhere(t, one, 5, api.Rela{Type: kind, Sym: 1 + sym})
			everywhere(t, one, 5, api.Rela{Off: last, Type: kind, Sym: 1 + sym, Add: math.MinInt64})
		}
	}
}

// P7.2: types between the eight, above them and with a bit of any place are none.
func TestCheckOtherTypes(t *testing.T) {
	var others []uint32
	for kind := range uint32(1 << 12) {
		others = append(others, kind)
	}
	for bit := range 32 {
		for _, kind := range kinds {
			others = append(others, kind|1<<bit, 1<<bit-1, ^kind)
		}
	}
	found := 0
	for _, kind := range others {
		if slices.Contains(kinds, kind) {
			continue
		}
		found++
		for _, sym := range []uint32{0, 1, 2, math.MaxUint32} {
			for _, symbols := range []int{math.MinInt, -1, 0, 1, 2, 3, math.MaxInt} {
				checks(t, api.ErrReloc, symbols, api.Rela{Type: kind, Sym: sym})
			}
			everywhere(t, api.ErrReloc, 3, api.Rela{Type: kind, Sym: sym})
		}
	}
	if found < 4000 {
		t.Error(found)
	}
}

// P7.2: each Sym near the number of symbols, that being 0, below 0 and great too.
func TestCheckSyms(t *testing.T) {
	counts := []int{math.MinInt, math.MinInt + 1, math.MinInt32, -1 << 32, -1<<32 + 1, -1<<32 + 2, -2, -1, 0, 1, 2, 3, 100,
		1<<31 - 1, 1 << 31, 1<<31 + 1, 1<<32 - 2, 1<<32 - 1, 1 << 32, 1<<32 + 1, 1<<32 + 2, 1 << 40, math.MaxInt - 1, math.MaxInt}
	found := map[api.Errno]int{}
	for _, symbols := range counts {
		near := uint32(symbols)
		for _, sym := range []uint32{0, 1, 2, 3, 99, 100, 101, 1<<31 - 1, 1 << 31, math.MaxUint32 - 1, math.MaxUint32, near - 2, near - 1, near, near + 1} {
			for _, kind := range kinds {
				r := api.Rela{Off: 5, Type: kind, Sym: sym, Add: -9}
				want := reckoned([]api.Rela{r}, symbols)
				found[want]++
				everywhere(t, want, symbols, r)
			}
		}
	}
	if found[api.OK] < 500 || found[api.ErrRange] < 500 || found[api.ErrForm] < 300 || len(found) != 3 {
		t.Error(found)
	}
	everywhere(t, api.OK, 0, api.Rela{Type: Relative})
	everywhere(t, api.OK, -1, api.Rela{Type: None})
	everywhere(t, api.ErrForm, 0, api.Rela{Type: Abs})
	everywhere(t, api.ErrForm, -1, api.Rela{Type: Abs})
	everywhere(t, api.ErrRange, 0, api.Rela{Type: Abs, Sym: 1})
	everywhere(t, api.ErrRange, 1, api.Rela{Type: Abs, Sym: 1})
	everywhere(t, api.OK, 2, api.Rela{Type: Abs, Sym: 1})
	everywhere(t, api.ErrRange, -1, api.Rela{Type: Abs, Sym: 1})
	everywhere(t, api.ErrRange, math.MaxUint32, api.Rela{Type: Abs, Sym: math.MaxUint32})
	everywhere(t, api.OK, 1<<32, api.Rela{Type: Abs, Sym: math.MaxUint32})
}

// P7.2: of two faults of an entry the one that the chapter names first.
func TestCheckTwoFaults(t *testing.T) {
	// A type that there isn't and a symbol that there isn't, with what would be wrong without both.
	everywhere(t, api.ErrReloc, 3, api.Rela{Type: 2, Sym: 3})
	everywhere(t, api.ErrReloc, 3, api.Rela{Type: 2})
	everywhere(t, api.ErrReloc, 0, api.Rela{Type: 19, Sym: 1})
	// A symbol that there isn't, of a type that has none.
	everywhere(t, api.ErrRange, 3, api.Rela{Type: None, Sym: 3})
	everywhere(t, api.ErrRange, 3, api.Rela{Type: Relative, Sym: 4})
	everywhere(t, api.ErrRange, 0, api.Rela{Type: Relative, Sym: 1})
	everywhere(t, api.ErrForm, 3, api.Rela{Type: None, Sym: 2})
	everywhere(t, api.ErrForm, 3, api.Rela{Type: Relative, Sym: 2})
}

// P7.2: of two entries that may not be the first one's error is told, wherever they stand.
func TestCheckTwoWrong(t *testing.T) {
	wrong := []struct {
		r   api.Rela
		err api.Errno
	}{
		{api.Rela{Type: 2}, api.ErrReloc}, {api.Rela{Type: 1 << 31, Sym: 9}, api.ErrReloc},
		{api.Rela{Type: Abs, Sym: 3}, api.ErrRange}, {api.Rela{Type: None, Sym: math.MaxUint32}, api.ErrRange},
		{api.Rela{Type: Slot}, api.ErrForm}, {api.Rela{Type: Relative, Sym: 1}, api.ErrForm},
	}
	for _, a := range wrong {
		for _, b := range wrong {
			checks(t, a.err, 3, a.r, b.r)
			checks(t, a.err, 3, shown, a.r, b.r)
			checks(t, a.err, 3, a.r, shown, b.r)
			checks(t, a.err, 3, shown, a.r, shown, b.r, shown)
			checks(t, a.err, 3, shown, shown, a.r, b.r, a.r)
		}
	}
}

// P7.2: lists of all kinds of entries, held against the rules one by one.
func TestCheckEverywhere(t *testing.T) {
	var l []api.Rela
	for _, kind := range []uint32{0, 1, 2, 8, 9, 18} {
		for _, sym := range []uint32{0, 1, 2, 5} {
			l = append(l, api.Rela{Off: uint64(kind), Type: kind, Sym: sym, Add: int64(sym)})
		}
	}
	found := map[api.Errno]int{}
	for _, a := range l {
		for _, b := range l {
			for _, c := range l {
				for symbols := -1; symbols < 7; symbols++ {
					list := []api.Rela{a, b, c}
					want := reckoned(list, symbols)
					found[want]++
					if e := Check(list, symbols); e != want {
						t.Fatalf("Check of %v with %d symbols: %d; want %d", list, symbols, e, want)
					}
				}
			}
		}
	}
	if len(found) != 4 || found[api.OK] < 500 {
		t.Error(found)
	}
}

// P7.2: of many entries one may not be, wherever it stands.
func TestCheckMany(t *testing.T) {
	l := make([]api.Rela, 1000)
	for i := range l {
		l[i] = api.Rela{Off: uint64(i), Type: kinds[i%8], Sym: uint32(1 + i%7), Add: int64(-i)}
		if i%8 == 0 || i%8 == 4 {
			l[i].Sym = 0
		}
	}
	checks(t, api.OK, 8, l...)
	for i := range l {
		kept := l[i]
		for _, wrong := range []api.Rela{{Type: 5}, {Type: Got, Sym: 8}, {Type: Module}, {Type: None, Sym: 1}} {
			l[i] = wrong
			if e := Check(l, 8); e != reckoned([]api.Rela{wrong}, 8) || e == api.OK {
				t.Fatalf("Check of %v at %d: %d", wrong, i, e)
			}
		}
		l[i] = kept
	}
	checks(t, api.OK, 8, l...)
}

// P7.2: entries behind the list's end and ahead of its beginning don't count.
func TestCheckAround(t *testing.T) {
	l := []api.Rela{{Type: 2}, shown, {Type: Relative}, {Type: Abs}}
	checks(t, api.OK, 3, l[:0]...)
	checks(t, api.OK, 3, l[1:3]...)
	checks(t, api.ErrReloc, 3, l[:3]...)
	checks(t, api.ErrForm, 3, l[1:]...)
	checks(t, api.ErrReloc, 3, l...)
	checks(t, api.ErrForm, 3, l[3:]...)
}

// values fails the test unless Value answers this.
func values(t *testing.T, kind uint32, base, symbol uint64, add int64, want uint64, err api.Errno) {
	t.Helper()
	if x, e := Value(kind, base, symbol, add); x != want || e != err {
		t.Fatalf("Value of %d, %d, %d, %d: %d, %d; want %d, %d", kind, base, symbol, add, x, e, want, err)
	}
}

// P7.3: each kind with numbers of which each sum is another one; the chapter's examples.
func TestValueExamples(t *testing.T) {
	values(t, Relative, 4096, 9, 5, 4101, api.OK)
	values(t, Got, 4096, 9, 5, 9, api.OK)
	values(t, Relative, 4096, 0, 5, 4101, api.OK)
	for kind, want := range map[uint32]uint64{
		None: 0, Abs: 14, Got: 9, Slot: 9, Relative: 4101, Module: 9, Within: 14, Thread: 14,
	} {
		values(t, kind, 4096, 9, 5, want, api.OK)
	}
	for kind, want := range map[uint32]uint64{
		None: 0, Abs: 4, Got: 9, Slot: 9, Relative: 4091, Module: 9, Within: 4, Thread: 4,
	} {
		values(t, kind, 4096, 9, -5, want, api.OK)
	}
}

// P7.3: sums that go over 2^64 and below 0, written out.
func TestValueModulo(t *testing.T) {
	for _, kind := range []uint32{Abs, Within, Thread} {
		values(t, kind, 7, last, 1, 0, api.OK)
		values(t, kind, 7, last, 2, 1, api.OK)
		values(t, kind, 7, 0, -1, last, api.OK)
		values(t, kind, 7, last, -1, last-1, api.OK)
		values(t, kind, 7, 0, math.MinInt64, 1<<63, api.OK)
		values(t, kind, 7, 1<<63, math.MinInt64, 0, api.OK)
		values(t, kind, 7, 1<<63+1, math.MaxInt64, 0, api.OK)
		values(t, kind, 7, last, math.MaxInt64, 1<<63-2, api.OK)
		values(t, kind, last, 0, 0, 0, api.OK)
	}
	values(t, Relative, last, 7, 1, 0, api.OK)
	values(t, Relative, 0, 7, -1, last, api.OK)
	values(t, Relative, 1<<63, 7, math.MinInt64, 0, api.OK)
	values(t, Relative, last, 7, math.MaxInt64, 1<<63-2, api.OK)
	values(t, Relative, 0, last, 0, 0, api.OK)
	for _, kind := range []uint32{Got, Slot, Module} {
		values(t, kind, last, 0, -1, 0, api.OK)
		values(t, kind, last, last, math.MaxInt64, last, api.OK)
	}
	values(t, None, last, last, -1, 0, api.OK)
}

// P7.3: each kind with numbers of all sorts, held against sums in two halves.
func TestValueEverywhere(t *testing.T) {
	sum := func(a, b uint64) uint64 {
		low := a%(1<<32) + b%(1<<32)
		high := a>>32 + b>>32 + low>>32
		return high%(1<<32)<<32 + low%(1<<32)
	}
	for _, base := range numbers() {
		for _, symbol := range numbers() {
			for _, add := range numbers() {
				plus, based := sum(symbol, add), sum(base, add)
				for i, want := range []uint64{0, plus, symbol, symbol, based, symbol, plus, plus} {
					values(t, kinds[i], base, symbol, int64(add), want, api.OK)
				}
			}
		}
	}
}

// P7.3: ErrReloc and 0 of any other kind, whatever the numbers are.
func TestValueOther(t *testing.T) {
	others := []uint32{1 << 31, math.MaxInt32, math.MaxUint32, math.MaxUint32 - 1}
	for kind := range uint32(1 << 12) {
		others = append(others, kind)
	}
	for bit := range 32 {
		for _, kind := range kinds {
			others = append(others, kind|1<<bit, ^kind)
		}
	}
	found := 0
	for _, kind := range others {
		if slices.Contains(kinds, kind) {
			continue
		}
		found++
		values(t, kind, 0, 0, 0, 0, api.ErrReloc)
		values(t, kind, 4096, 9, 5, 0, api.ErrReloc)
		values(t, kind, last, last, -1, 0, api.ErrReloc)
		values(t, kind, 1, 2, math.MinInt64, 0, api.ErrReloc)
	}
	if found < 4000 {
		t.Error(found)
	}
}

// P7.4: Table returns what Put encoded, of each entry alone and of all together.
func TestPutThenTable(t *testing.T) {
	var all []byte
	for _, r := range some() {
		b := Put(r)
		wants(t, b, []api.Rela{r}, api.OK)
		all = append(all, b...)
	}
	wants(t, all, some(), api.OK)
	for n := range uint64(200) {
		b := stirred(24, n)
		l, e := Table(b)
		if len(l) != 1 || e != api.OK || !bytes.Equal(Put(l[0]), b) {
			t.Errorf("Table of % x: %v, %d", b, l, e)
		}
	}
}

// P7.1: a result of Put hangs on no other one.
func TestPutNewMemory(t *testing.T) {
	first, second := Put(counted), Put(counted)
	for i := range first {
		first[i] = ^first[i]
	}
	// What is appended must not fall into what belongs to somebody else.
	first = append(first, 9, 9, 9)
	third := Put(counted)
	if !bytes.Equal(second, plain(counted)) || !bytes.Equal(third, plain(counted)) {
		t.Errorf("results of Put share memory: % x, % x", second, third)
	}
	if len(first) != 27 {
		t.Error(len(first))
	}
}

// P7.1: a result of Table hangs on no other one and not on the bytes, and those stay as they are.
func TestTableNewMemory(t *testing.T) {
	want := []api.Rela{{}, shown, counted}
	whole := append(plains(want...), 1, 2, 3)
	kept := bytes.Clone(whole)
	b := whole[:72]
	first, _ := Table(b)
	second, _ := Table(b)
	for i := range first {
		first[i] = greatest
	}
	first = append(first, greatest, greatest)
	third, e := Table(b)
	if !slices.Equal(second, want) || !slices.Equal(third, want) || e != api.OK {
		t.Errorf("results of Table share memory: %v, %v, %d", second, third, e)
	}
	if !bytes.Equal(whole, kept) {
		t.Errorf("Table changed its bytes to % x", whole)
	}
	for i := range whole {
		whole[i] = ^whole[i]
	}
	if !slices.Equal(second, want) || !slices.Equal(third, want) {
		t.Errorf("results of Table hang on bytes that are changed: %v, %v", second, third)
	}
	if len(first) != 5 {
		t.Error(len(first))
	}
}

// P7.1, P7.2, P7.3: nothing is left over from a call before.
func TestAgain(t *testing.T) {
	for range 3 {
		for _, r := range []api.Rela{greatest, {}, counted, shown} {
			puts(t, r, plain(r))
			wants(t, plains(r, r), []api.Rela{r, r}, api.OK)
			wants(t, plain(r)[:23], nil, api.ErrRange)
			checks(t, reckoned([]api.Rela{r}, 3), 3, r)
			checks(t, reckoned([]api.Rela{{}, r}, 2), 2, api.Rela{}, r)
		}
		values(t, Relative, 4096, 9, 5, 4101, api.OK)
		values(t, 2, 4096, 9, 5, 0, api.ErrReloc)
		values(t, Abs, 4096, 9, 5, 14, api.OK)
	}
}
