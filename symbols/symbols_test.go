package symbols

import (
	"bytes"
	"encoding/binary"
	"math"
	"slices"
	"testing"

	"dormouse/api"
)

// last is the greatest number of 64 bits.
const last = uint64(math.MaxUint64)

// shown is the second entry of the chapter's examples.
var shown = api.Sym{Name: 5, Info: 18, Sect: 1, Value: 7}

// greatest is the entry of which all fields are at their greatest.
var greatest = api.Sym{Name: math.MaxUint32, Info: math.MaxUint8, Other: math.MaxUint8, Sect: math.MaxUint16, Value: last, Size: last}

// counted is an entry whose bytes are 1, 2, 3 and so on.
var counted = api.Sym{Name: 0x04030201, Info: 5, Other: 6, Sect: 0x0807, Value: 0x100f0e0d0c0b0a09, Size: 0x1817161514131211}

// fields are how many fields an entry has.
const fields = 6

// with is an entry with another number in one of its fields, in their order.
func with(s api.Sym, field int, x uint64) api.Sym {
	switch field {
	case 0:
		s.Name = uint32(x)
	case 1:
		s.Info = byte(x)
	case 2:
		s.Other = byte(x)
	case 3:
		s.Sect = uint16(x)
	case 4:
		s.Value = x
	case 5:
		s.Size = x
	}
	return s
}

// bits is how many bits each field has.
func bits(field int) int { return []int{32, 8, 8, 16, 64, 64}[field] }

// numbers are some that the fields may be.
func numbers() []uint64 {
	return []uint64{0, 1, 2, 5, 18, 255, 256, 257, 1<<16 - 1, 1 << 16, 1<<32 - 1, 1 << 32, 1<<63 - 1, 1 << 63, last - 1, last, 0x0123456789abcdef, 0xfedcba9876543210}
}

// some are entries with numbers of each kind in their fields.
func some() []api.Sym {
	l := []api.Sym{{}, shown, greatest, counted}
	x := numbers()
	for i := range x {
		for j := range x {
			s := api.Sym{}
			for field := range fields {
				s = with(s, field, x[(i+field*j)%len(x)])
			}
			l = append(l, s)
		}
	}
	return l
}

// plain are the bytes of an entry, each number laid at its own index.
func plain(s api.Sym) []byte {
	b := make([]byte, 24)
	little := binary.LittleEndian
	little.PutUint32(b, s.Name)
	b[4] = s.Info
	b[5] = s.Other
	little.PutUint16(b[6:], s.Sect)
	little.PutUint64(b[8:], s.Value)
	little.PutUint64(b[16:], s.Size)
	return b
}

// plains are the bytes of entries, one behind the other.
func plains(l ...api.Sym) []byte {
	var b []byte
	for _, s := range l {
		b = append(b, plain(s)...)
	}
	return b
}

// told are the entries that Table should tell of whole ones.
func told(b []byte) []api.Sym {
	var l []api.Sym
	little := binary.LittleEndian
	for ; len(b) > 0; b = b[24:] {
		l = append(l, api.Sym{
			Name:  little.Uint32(b),
			Info:  b[4],
			Other: b[5],
			Sect:  little.Uint16(b[6:]),
			Value: little.Uint64(b[8:]),
			Size:  little.Uint64(b[16:]),
		})
	}
	return l
}

// wants fails the test unless Table answers this, and leaves the bytes as they are.
func wants(t *testing.T, b []byte, l []api.Sym, err api.Errno) {
	t.Helper()
	kept := bytes.Clone(b)
	if got, e := Table(b); !slices.Equal(got, l) || e != err {
		t.Fatalf("Table of % x: %v, %d; want %v, %d", b, got, e, l, err)
	}
	if !bytes.Equal(b, kept) {
		t.Fatalf("Table changed its bytes from % x to % x", kept, b)
	}
}

// P6.1, P6.2: the constants that the chapter gives.
func TestConstants(t *testing.T) {
	if Size != 24 {
		t.Error(Size)
	}
	if got := [...]int{Local, Global, Weak, Plain, Object, Func, Tls}; got != [...]int{0, 1, 2, 0, 1, 2, 6} {
		t.Error(got)
	}
}

// P6.1: all 24 bytes, written out.
func TestBytes(t *testing.T) {
	for _, c := range []struct {
		s    api.Sym
		want []byte
	}{
		{api.Sym{}, make([]byte, 24)},
		{shown, []byte{
			5, 0, 0, 0, 18, 0, 1, 0,
			7, 0, 0, 0, 0, 0, 0, 0,
			0, 0, 0, 0, 0, 0, 0, 0,
		}},
		{counted, []byte{
			0x01, 0x02, 0x03, 0x04, 0x05, 0x06, 0x07, 0x08,
			0x09, 0x0a, 0x0b, 0x0c, 0x0d, 0x0e, 0x0f, 0x10,
			0x11, 0x12, 0x13, 0x14, 0x15, 0x16, 0x17, 0x18,
		}},
		{greatest, bytes.Repeat([]byte{255}, 24)},
		{api.Sym{Name: 0x80000000, Info: 0x80, Other: 0x40, Sect: 0x8000, Value: 1 << 63, Size: 1 << 56}, []byte{
			0, 0, 0, 128, 128, 64, 0, 128,
			0, 0, 0, 0, 0, 0, 0, 128,
			0, 0, 0, 0, 0, 0, 0, 1,
		}},
		{api.Sym{Name: 0x100, Sect: 0x100, Value: 0x100, Size: 0x10000}, []byte{
			0, 1, 0, 0, 0, 0, 0, 1,
			0, 1, 0, 0, 0, 0, 0, 0,
			0, 0, 1, 0, 0, 0, 0, 0,
		}},
	} {
		if b := Put(c.s); !bytes.Equal(b, c.want) {
			t.Errorf("Put of %v: % x; want % x", c.s, b, c.want)
		}
		wants(t, c.want, []api.Sym{c.s}, api.OK)
	}
}

// P6.1: each field alone at its greatest fills its own bytes and no others.
func TestFieldsAlone(t *testing.T) {
	for field, place := range [][2]int{{0, 4}, {4, 5}, {5, 6}, {6, 8}, {8, 16}, {16, 24}} {
		alone := make([]byte, 24)
		others := bytes.Repeat([]byte{255}, 24)
		for at := place[0]; at < place[1]; at++ {
			alone[at], others[at] = 255, 0
		}
		for _, c := range []struct {
			s    api.Sym
			want []byte
		}{
			{with(api.Sym{}, field, last), alone},
			{with(greatest, field, 0), others},
		} {
			if b := Put(c.s); !bytes.Equal(b, c.want) {
				t.Errorf("Put of %v: % x; want % x", c.s, b, c.want)
			}
			wants(t, c.want, []api.Sym{c.s}, api.OK)
		}
	}
}

// P6.1: each bit of each field has its own place.
func TestEachBit(t *testing.T) {
	for field := range fields {
		for bit := range bits(field) {
			for _, s := range []api.Sym{
				with(api.Sym{}, field, 1<<bit), with(shown, field, 1<<bit),
				with(greatest, field, ^(1 << bit)), with(counted, field, ^(1 << bit)),
			} {
				if b := Put(s); !bytes.Equal(b, plain(s)) {
					t.Errorf("Put of %v: % x; want % x", s, b, plain(s))
				}
				wants(t, plain(s), []api.Sym{s}, api.OK)
			}
		}
	}
}

// P6.1: numbers of each kind in all fields, held against bytes laid at their indices.
func TestPutEverywhere(t *testing.T) {
	for _, s := range some() {
		if b := Put(s); !bytes.Equal(b, plain(s)) {
			t.Fatalf("Put of %v: % x; want % x", s, b, plain(s))
		}
	}
}

// P6.1: no bytes, those of one entry and of two; the chapter's example.
func TestTableExamples(t *testing.T) {
	wants(t, nil, nil, api.OK)
	wants(t, []byte{}, nil, api.OK)
	wants(t, make([]byte, 24), []api.Sym{{}}, api.OK)
	wants(t, make([]byte, 48), []api.Sym{{}, {}}, api.OK)
	wants(t, slices.Concat(Put(api.Sym{}), Put(shown)), []api.Sym{{}, shown}, api.OK)
	wants(t, slices.Concat(Put(shown), Put(api.Sym{})), []api.Sym{shown, {}}, api.OK)
}

// P6.1: ErrRange of each length that is no multiple of 24, whatever the bytes are and whatever lies behind their end.
func TestTableLengths(t *testing.T) {
	lengths := []int{}
	for n := range 250 {
		lengths = append(lengths, n, 24*256-125+n, 24*1000-125+n, 1<<16-125+n)
	}
	slices.Sort(lengths)
	accepted := 0
	for _, fill := range []byte{0, 1, 24, 255} {
		whole := bytes.Repeat([]byte{fill}, lengths[len(lengths)-1]+50)
		for _, n := range lengths {
			for _, b := range [][]byte{whole[:n], whole[:n:n], whole[50 : 50+n]} {
				if n%24 != 0 {
					wants(t, b, nil, api.ErrRange)
					continue
				}
				accepted++
				wants(t, b, told(b), api.OK)
			}
		}
	}
	if accepted < 400 {
		t.Errorf("only %d lengths were multiples", accepted)
	}
}

// P6.1: bytes that make entries, but for the last ones, are no table either.
func TestTableCut(t *testing.T) {
	whole := plains(api.Sym{}, shown, greatest, counted)
	for n := range whole {
		if n%24 == 0 {
			wants(t, whole[:n], told(whole[:n]), api.OK)
			continue
		}
		wants(t, whole[:n], nil, api.ErrRange)
		wants(t, bytes.Clone(whole[:n]), nil, api.ErrRange)
		wants(t, whole[n:], nil, api.ErrRange)
	}
}

// P6.1: each byte of a table, changed to every value, is told and nothing is wrong with it.
func TestTableEachByte(t *testing.T) {
	b := plains(api.Sym{}, counted, greatest)
	for at := range b {
		kept := b[at]
		for c := range 256 {
			b[at] = byte(c)
			wants(t, b, told(b), api.OK)
		}
		b[at] = kept
	}
}

// stirred are so many bytes that look like no rule.
func stirred(n int, x uint64) []byte {
	b := make([]byte, n)
	for i := range b {
		x = x*6364136223846793005 + 1442695040888963407
		b[i] = byte(x >> 56)
	}
	return b
}

// P6.1: bytes of any kind.
func TestTableAnyBytes(t *testing.T) {
	for n := range uint64(40) {
		for seed := range uint64(20) {
			b := stirred(int(24*n), 100*n+seed)
			wants(t, b, told(b), api.OK)
		}
	}
}

// P6.1: what lies ahead of the slice and behind it doesn't count.
func TestTableAround(t *testing.T) {
	inside := plains(api.Sym{}, shown, counted)
	for ahead := range 50 {
		for _, fill := range []byte{0, 1, 255} {
			around := bytes.Repeat([]byte{fill}, 200)
			copy(around[ahead:], inside)
			end := ahead + len(inside)
			wants(t, around[ahead:end], []api.Sym{{}, shown, counted}, api.OK)
			wants(t, around[ahead:end:end], []api.Sym{{}, shown, counted}, api.OK)
			wants(t, around[ahead:ahead+24], []api.Sym{{}}, api.OK)
			wants(t, around[ahead+24:ahead+48], []api.Sym{shown}, api.OK)
			wants(t, around[ahead:ahead], nil, api.OK)
		}
	}
}

// P6.1: many entries, in their order.
func TestTableMany(t *testing.T) {
	var l []api.Sym
	for i := range uint64(5000) {
		l = append(l, api.Sym{Name: uint32(i * i), Info: byte(i), Other: byte(i >> 8), Sect: uint16(7 * i), Value: i << 40, Size: ^i})
	}
	wants(t, plains(l...), l, api.OK)
}

// P6.2: the chapter's example.
func TestPropertiesExample(t *testing.T) {
	s := api.Sym{Info: 18, Sect: 1}
	if Bind(s) != Global || Kind(s) != Func || !Defined(s) {
		t.Error(Bind(s), Kind(s), Defined(s))
	}
	if Bind(s) != 1 || Kind(s) != 2 {
		t.Error(Bind(s), Kind(s))
	}
}

// P6.2: every Info, whatever the other fields are.
func TestBindAndKind(t *testing.T) {
	info := 0
	for bind := range 16 {
		for kind := range 16 {
			for _, s := range []api.Sym{{}, shown, greatest, counted} {
				s.Info = byte(info)
				if Bind(s) != bind || Kind(s) != kind {
					t.Errorf("Bind and Kind of %v: %d, %d; want %d, %d", s, Bind(s), Kind(s), bind, kind)
				}
			}
			info++
		}
	}
	if info != 256 {
		t.Error(info)
	}
}

// P6.2: every Sect, whatever the other fields are.
func TestDefined(t *testing.T) {
	for sect := range 1 << 16 {
		for _, s := range []api.Sym{{}, shown, greatest, counted} {
			s.Sect = uint16(sect)
			if Defined(s) != (sect > 0) {
				t.Fatalf("Defined of %v: %v", s, Defined(s))
			}
		}
	}
	for _, c := range []struct {
		sect uint16
		want bool
	}{{0, false}, {1, true}, {2, true}, {0x100, true}, {0xff00, true}, {math.MaxUint16, true}} {
		if Defined(api.Sym{Sect: c.sect}) != c.want {
			t.Errorf("Defined of Sect %d: %v", c.sect, !c.want)
		}
	}
}

// The Infos that an entry may have which is not the first: those of Bind 0 to 2 and Kind 0, 1, 2 or 6.
var infos = []byte{0x00, 0x01, 0x02, 0x06, 0x10, 0x11, 0x12, 0x16, 0x20, 0x21, 0x22, 0x26}

// fits tells by each rule alone whether an entry may be that is not the first.
func fits(s api.Sym) bool {
	for _, broken := range []bool{
		!slices.Contains(infos, s.Info),
		s.Other > 0,
		s.Sect > 1,
		s.Name < 1,
		s.Sect == 0 && s.Value > 0,
		s.Sect == 0 && s.Size > 0,
		s.Sect == 0 && s.Info < 0x10,
	} {
		if broken {
			return false
		}
	}
	return true
}

// reckoned is what Check should answer.
func reckoned(l []api.Sym) api.Errno {
	if len(l) > 0 && !bytes.Equal(plain(l[0]), make([]byte, 24)) {
		return api.ErrForm
	}
	for i := 1; i < len(l); i++ {
		if !fits(l[i]) {
			return api.ErrForm
		}
	}
	return api.OK
}

// checks fails the test unless Check answers this, and leaves the list as it is.
func checks(t *testing.T, err api.Errno, l ...api.Sym) {
	t.Helper()
	kept := slices.Clone(l)
	if e := Check(l); e != err {
		t.Errorf("Check of %v: %d; want %d", l, e, err)
	}
	if !slices.Equal(l, kept) {
		t.Errorf("Check changed its list from %v to %v", kept, l)
	}
}

// everywhere fails the test unless Check answers this of an entry behind the first, wherever that stands among good ones.
func everywhere(t *testing.T, err api.Errno, s api.Sym) {
	t.Helper()
	good := goods()
	checks(t, err, api.Sym{}, s)
	checks(t, err, api.Sym{}, s, s)
	checks(t, err, api.Sym{}, s, shown)
	checks(t, err, api.Sym{}, shown, s)
	checks(t, err, api.Sym{}, shown, s, shown)
	for _, at := range []int{1, 2, len(good) / 2, len(good) - 1, len(good)} {
		checks(t, err, slices.Insert(slices.Clone(good), at, s)...)
	}
}

// goods are an entry that is zero and all that may be behind it, by Bind, Kind and Sect.
func goods() []api.Sym {
	l := []api.Sym{{}}
	for i, info := range infos {
		l = append(l, api.Sym{Name: uint32(i + 1), Info: info, Sect: 1, Value: uint64(100 * i), Size: uint64(i)})
		if info >= 0x10 {
			l = append(l, api.Sym{Name: uint32(i + 50), Info: info})
		}
	}
	return l
}

// P6.3: no entry, the chapter's examples, and all that is good together.
func TestCheckExamples(t *testing.T) {
	checks(t, api.OK)
	if e := Check(nil); e != api.OK {
		t.Error(e)
	}
	if e := Check([]api.Sym{}); e != api.OK {
		t.Error(e)
	}
	checks(t, api.OK, api.Sym{})
	checks(t, api.OK, api.Sym{}, shown)
	checks(t, api.ErrForm, shown)
	checks(t, api.ErrForm, shown, api.Sym{})
	checks(t, api.ErrForm, shown, shown)
	checks(t, api.ErrForm, api.Sym{}, shown, api.Sym{})
	if len(goods()) != 21 {
		t.Error(len(goods()))
	}
	checks(t, api.OK, goods()...)
	checks(t, api.ErrForm, goods()[1:]...)
}

// P6.3: a first entry that is not zero in one field alone, in each of its bits, with and without others behind it.
func TestCheckFirst(t *testing.T) {
	for field := range fields {
		numbers := []uint64{1, last}
		for bit := range bits(field) {
			numbers = append(numbers, 1<<bit)
		}
		for _, x := range numbers {
			first := with(api.Sym{}, field, x)
			checks(t, api.ErrForm, first)
			checks(t, api.ErrForm, first, shown)
			checks(t, api.ErrForm, append([]api.Sym{first}, goods()[1:]...)...)
		}
	}
	// One that may stand behind the first may not be it.
	for _, s := range goods()[1:] {
		checks(t, api.ErrForm, s)
		checks(t, api.ErrForm, append([]api.Sym{s}, goods()...)...)
	}
}

// P6.3: an entry that is zero in all fields may be the first alone.
func TestCheckZero(t *testing.T) {
	everywhere(t, api.ErrForm, api.Sym{})
	checks(t, api.ErrForm, api.Sym{}, api.Sym{})
	checks(t, api.ErrForm, api.Sym{}, api.Sym{}, shown)
	checks(t, api.ErrForm, make([]api.Sym, 10)...)
}

// P6.3: every Bind and Kind, with Sect 0 and 1.
func TestCheckInfo(t *testing.T) {
	for bind := range 16 {
		for kind := range 16 {
			mayKind := kind <= 2 || kind == 6
			for sect := range 2 {
				mayBind := bind == 1 || bind == 2 || bind == 0 && sect == 1
				want := api.ErrForm
				if mayBind && mayKind {
					want = api.OK
				}
				everywhere(t, want, api.Sym{Name: 5, Info: byte(16*bind + kind), Sect: uint16(sect)})
			}
		}
	}
}

// P6.3: every Other, every Name near an edge, and each Sect that has one bit or is near an edge.
func TestCheckFields(t *testing.T) {
	undefined := api.Sym{Name: 9, Info: 0x12}
	for _, s := range append(goods()[1:], undefined, shown) {
		everywhere(t, api.OK, s)
		for other := range 256 {
			want := api.ErrForm
			if other == 0 {
				want = api.OK
			}
			checks(t, want, api.Sym{}, with(s, 2, uint64(other)))
		}
		everywhere(t, api.ErrForm, with(s, 2, 1))
		everywhere(t, api.ErrForm, with(s, 2, 255))
		everywhere(t, api.ErrForm, with(s, 0, 0))
		for bit := range 32 {
			checks(t, api.OK, api.Sym{}, with(s, 0, 1<<bit))
		}
		checks(t, api.OK, api.Sym{}, with(s, 0, math.MaxUint32))
		for _, sect := range []uint64{2, 3, 0x7fff, 0xfff1, 0xfff2, 0xfffe, 0xffff} {
			everywhere(t, api.ErrForm, with(s, 3, sect))
		}
		for bit := 1; bit < 16; bit++ {
			checks(t, api.ErrForm, api.Sym{}, with(s, 3, 1<<bit))
			checks(t, api.ErrForm, api.Sym{}, with(s, 3, 1<<bit|1))
		}
	}
}

// P6.3: what Sect 0 rules out, and Sect 1 doesn't.
func TestCheckUndefined(t *testing.T) {
	for _, info := range infos {
		for bit := range 65 {
			x := last
			if bit < 64 {
				x = 1 << bit
			}
			for _, s := range []api.Sym{{Value: x}, {Size: x}, {Value: x, Size: x}} {
				s.Name, s.Info = 5, info
				everywhere(t, api.ErrForm, s)
				s.Sect = 1
				everywhere(t, api.OK, s)
			}
		}
		undefined := api.Sym{Name: 5, Info: info}
		if info < 0x10 {
			everywhere(t, api.ErrForm, undefined)
		} else {
			everywhere(t, api.OK, undefined)
		}
		undefined.Sect = 1
		everywhere(t, api.OK, undefined)
	}
}

// P6.3: entries whose fields break none, one or several of the rules, at each place of short lists.
func TestCheckEverywhere(t *testing.T) {
	found := map[api.Errno]int{}
	for _, name := range []uint32{0, 1, 1 << 31} {
		for info := range 256 {
			for _, other := range []byte{0, 1, 128} {
				for _, sect := range []uint16{0, 1, 2, 256, math.MaxUint16} {
					for which := range 4 {
						s := api.Sym{Name: name, Info: byte(info), Other: other, Sect: sect, Value: uint64(which&1) << 40, Size: uint64(which>>1) * last}
						for _, l := range [][]api.Sym{{s}, {{}, s}, {{}, shown, s}, {{}, s, shown}, {s, shown}} {
							want := reckoned(l)
							found[want]++
							if e := Check(l); e != want {
								t.Fatalf("Check of %v: %d; want %d", l, e, want)
							}
						}
					}
				}
			}
		}
	}
	if found[api.OK] < 200 || found[api.ErrForm] < 1000 || len(found) != 2 {
		t.Error(found)
	}
}

// P6.3: of many entries one may not be, wherever it stands.
func TestCheckMany(t *testing.T) {
	l := make([]api.Sym, 1000)
	for i := range l[1:] {
		l[1+i] = goods()[1+i%20]
	}
	checks(t, api.OK, l...)
	for i := range l[1:] {
		for _, wrong := range []api.Sym{{}, with(l[1+i], 0, 0), with(l[1+i], 1, 0x30), with(l[1+i], 1, 0x13), with(l[1+i], 2, 7), with(l[1+i], 3, 2)} {
			kept := l[1+i]
			l[1+i] = wrong
			if e := Check(l); e != api.ErrForm {
				t.Fatalf("Check of %v at %d: %d", wrong, 1+i, e)
			}
			l[1+i] = kept
		}
	}
	checks(t, api.OK, l...)
}

// P6.3: entries behind the list's end don't count.
func TestCheckBehind(t *testing.T) {
	l := []api.Sym{{}, shown, {}, greatest}
	checks(t, api.OK, l[:0]...)
	checks(t, api.OK, l[:1]...)
	checks(t, api.OK, l[:2]...)
	checks(t, api.ErrForm, l[:3]...)
	checks(t, api.ErrForm, l...)
	checks(t, api.ErrForm, l[1:2]...)
	checks(t, api.OK, l[2:3]...)
}

// P6.4: Table returns what Put encoded, of each entry alone and of all together.
func TestPutThenTable(t *testing.T) {
	var all []byte
	for _, s := range some() {
		b := Put(s)
		wants(t, b, []api.Sym{s}, api.OK)
		all = append(all, b...)
	}
	wants(t, all, some(), api.OK)
	for n := range uint64(200) {
		b := stirred(24, n)
		l, e := Table(b)
		if len(l) != 1 || e != api.OK || !bytes.Equal(Put(l[0]), b) {
			t.Errorf("Table of % x: %v, %d", b, l, e)
		}
	}
}

// P6.4: a table that may be is told as one.
func TestPutThenCheck(t *testing.T) {
	var b []byte
	for _, s := range goods() {
		b = append(b, Put(s)...)
	}
	l, e := Table(b)
	if !slices.Equal(l, goods()) || e != api.OK {
		t.Fatal(l, e)
	}
	checks(t, api.OK, l...)
	l, e = Table(b[24:])
	if e != api.OK {
		t.Fatal(e)
	}
	checks(t, api.ErrForm, l...)
}

// P6.1: a result of Put hangs on no other one.
func TestPutNewMemory(t *testing.T) {
	first, second := Put(counted), Put(counted)
	for i := range first {
		first[i] = ^first[i]
	}
	// What is appended must not fall into what belongs to somebody else.
	first = append(first, 9, 9, 9)
	third := Put(counted)
	if !bytes.Equal(second, plain(counted)) || !bytes.Equal(third, plain(counted)) {
		t.Errorf("results of Put share memory: % x, % x", second, third)
	}
	if len(first) != 27 {
		t.Error(len(first))
	}
}

// P6.1: a result of Table hangs on no other one and not on the bytes, and those stay as they are.
func TestTableNewMemory(t *testing.T) {
	want := []api.Sym{{}, shown, counted}
	whole := append(plains(want...), 1, 2, 3)
	kept := bytes.Clone(whole)
	b := whole[:72]
	first, _ := Table(b)
	second, _ := Table(b)
	for i := range first {
		first[i] = greatest
	}
	first = append(first, greatest, greatest)
	third, e := Table(b)
	if !slices.Equal(second, want) || !slices.Equal(third, want) || e != api.OK {
		t.Errorf("results of Table share memory: %v, %v, %d", second, third, e)
	}
	if !bytes.Equal(whole, kept) {
		t.Errorf("Table changed its bytes to % x", whole)
	}
	for i := range whole {
		whole[i] = ^whole[i]
	}
	if !slices.Equal(second, want) || !slices.Equal(third, want) {
		t.Errorf("results of Table hang on bytes that are changed: %v, %v", second, third)
	}
	if len(first) != 5 {
		t.Error(len(first))
	}
}

// P6.1, P6.2, P6.3: nothing is left over from a call before.
func TestAgain(t *testing.T) {
	for range 3 {
		for _, s := range []api.Sym{greatest, {}, counted, shown} {
			if b := Put(s); !bytes.Equal(b, plain(s)) {
				t.Errorf("Put of %v: % x", s, b)
			}
			wants(t, plains(s, s), []api.Sym{s, s}, api.OK)
			wants(t, plain(s)[:23], nil, api.ErrRange)
			if Bind(s) != int(s.Info>>4) || Kind(s) != int(s.Info&15) || Defined(s) != (s.Sect > 0) {
				t.Error(s, Bind(s), Kind(s), Defined(s))
			}
			checks(t, reckoned([]api.Sym{{}, s}), api.Sym{}, s)
			checks(t, reckoned([]api.Sym{s}), s)
		}
	}
}
