package names

import (
	"bytes"
	"math"
	"slices"
	"strconv"
	"strings"
	"testing"

	"dormouse/api"
)

// last is the greatest place that can be asked for.
const last = uint64(math.MaxUint64)

// tables are all tables of up to so many of these bytes.
func tables(most int, of ...byte) [][]byte {
	l := [][]byte{nil}
	for from := 0; most > 0; most-- {
		to := len(l)
		for _, t := range l[from:to] {
			for _, c := range of {
				l = append(l, append(bytes.Clone(t), c))
			}
		}
		from = to
	}
	return l
}

// lists are all lists of up to so many of these names.
func lists(most int, of ...string) [][]string {
	l := [][]string{nil}
	for from := 0; most > 0; most-- {
		to := len(l)
		for _, t := range l[from:to] {
			for _, name := range of {
				l = append(l, append(slices.Clone(t), name))
			}
		}
		from = to
	}
	return l
}

// many are so many names that differ, each of 16 bytes.
func many(n int) []string {
	l := make([]string, n)
	for i := range l {
		l[i] = strconv.FormatInt(int64(1<<60+i), 16)
	}
	return l
}

// plain is what Build should answer, worked out by going through all names before each one.
func plain(l []string) ([]byte, []uint64, api.Errno) {
	for _, name := range l {
		for i := range len(name) {
			if name[i] == 0 {
				return nil, nil, api.ErrArg
			}
		}
	}
	table, found := "\x00", []uint64{}
	for i, name := range l {
		at := uint64(len(table))
		if name == "" {
			at = 0
		} else if j := slices.Index(l, name); j < i {
			at = found[j]
		} else {
			table += name + "\x00"
		}
		found = append(found, at)
	}
	if len(table) > api.MaxFile {
		return nil, nil, api.ErrSize
	}
	return []byte(table), found, api.OK
}

// short is a list's text, cut off where it would fill the screen.
func short(l []string) string {
	s := strconv.Quote(strings.Join(l, "|"))
	return s[:min(len(s), 80)]
}

// P2.1
func TestCheck(t *testing.T) {
	for _, c := range []struct {
		table string
		want  api.Errno
	}{
		{"", api.ErrForm},
		{"\x00", api.OK},
		{"\x01", api.ErrForm},
		{"\xff", api.ErrForm},
		{"0", api.ErrForm},
		{"\x00\x00", api.OK},
		{"\x01\x00", api.ErrForm},
		{"\x00\x01", api.ErrForm},
		{"\x01\x01", api.ErrForm},
		{"\x00a\x00", api.OK},
		{"\x00a", api.ErrForm},
		{"a\x00", api.ErrForm},
		{"a\x00b", api.ErrForm},
		{"\x00a\x00b", api.ErrForm},
		{"a\x00b\x00", api.ErrForm},
		{"\x00a\x00bc\x00", api.OK},
		{"\x00\x00\x00", api.OK},
		{"\x00\xff\xfe\x00", api.OK},
		{"\x00" + strings.Repeat("a", api.MaxFile) + "\x00", api.OK},
		{"\x00" + strings.Repeat("a", api.MaxFile), api.ErrForm},
	} {
		if e := Check([]byte(c.table)); e != c.want {
			t.Errorf("Check of %s: %d; want %d", short([]string{c.table}), e, c.want)
		}
	}
	for _, table := range [][]byte{nil, {}} {
		if e := Check(table); e != api.ErrForm {
			t.Error(e)
		}
	}
}

// P2.1
func TestCheckEverywhere(t *testing.T) {
	for _, table := range tables(6, 0, 1, 255) {
		s := string(table)
		want := api.ErrForm
		if strings.HasPrefix(s, "\x00") && strings.HasSuffix(s, "\x00") {
			want = api.OK
		}
		if e := Check(table); e != want {
			t.Fatalf("Check of %x: %d; want %d", s, e, want)
		}
		if string(table) != s {
			t.Fatalf("Check changed %x", s)
		}
	}
}

// P2.1: just a byte 0 will do as the first and the last one.
func TestCheckEachByte(t *testing.T) {
	for c := range 256 {
		want := api.ErrForm
		if c == 0 {
			want = api.OK
		}
		for _, table := range [][]byte{{byte(c)}, {byte(c), 0}, {0, byte(c)}, {byte(c), 'a', 0}, {0, 'a', byte(c)}} {
			if e := Check(table); e != want {
				t.Errorf("Check of %x: %d; want %d", table, e, want)
			}
		}
		if e := Check([]byte{0, byte(c), 0}); e != api.OK {
			t.Errorf("Check with %x in the middle: %d", c, e)
		}
	}
}

// P2.1
func TestAt(t *testing.T) {
	for _, c := range []struct {
		table string
		at    uint64
		want  string
		e     api.Errno
	}{
		{"\x00a\x00bc\x00", 0, "", api.OK},
		{"\x00a\x00bc\x00", 1, "a", api.OK},
		{"\x00a\x00bc\x00", 2, "", api.OK},
		{"\x00a\x00bc\x00", 3, "bc", api.OK},
		{"\x00a\x00bc\x00", 4, "c", api.OK},
		{"\x00a\x00bc\x00", 5, "", api.OK},
		{"\x00a\x00bc\x00", 6, "", api.ErrRange},
		{"\x00a\x00bc\x00", 7, "", api.ErrRange},
		{"\x00a\x00bc\x00", 1 << 32, "", api.ErrRange},
		{"\x00a\x00bc\x00", 1<<32 + 1, "", api.ErrRange},
		{"\x00a\x00bc\x00", 1 << 63, "", api.ErrRange},
		{"\x00a\x00bc\x00", 1<<63 + 1, "", api.ErrRange},
		{"\x00a\x00bc\x00", last - 1, "", api.ErrRange},
		{"\x00a\x00bc\x00", last, "", api.ErrRange},
		{"\x00", 0, "", api.OK},
		{"\x00", 1, "", api.ErrRange},
		{"", 0, "", api.ErrRange},
		{"", 1, "", api.ErrRange},
		{"", last, "", api.ErrRange},
		{"a", 0, "", api.ErrForm},
		{"a", 1, "", api.ErrRange},
		{"ab", last, "", api.ErrRange},
		{"abc\x00", 0, "abc", api.OK},
		{"\x00abc", 0, "", api.OK},
		{"\x00abc", 1, "", api.ErrForm},
		{"\x00abc", 3, "", api.ErrForm},
		{"\x00abc", 4, "", api.ErrRange},
		{"\x00a\x00bc", 1, "a", api.OK},
		{"\x00a\x00bc", 3, "", api.ErrForm},
		{"\x00a b\n\x00", 1, "a b\n", api.OK},
		{"\x00\xff\xc3\x80\x01\x00", 1, "\xff\xc3\x80\x01", api.OK},
		{"\x00\xff\xc3\x80\x01\x00", 3, "\x80\x01", api.OK},
	} {
		table := []byte(c.table)
		if s, e := At(table, c.at); s != c.want || e != c.e {
			t.Errorf("At of %q at %d: %q, %d; want %q, %d", c.table, c.at, s, e, c.want, c.e)
		}
		if string(table) != c.table {
			t.Errorf("At changed %q", c.table)
		}
	}
	for _, table := range [][]byte{nil, {}} {
		if s, e := At(table, 0); s != "" || e != api.ErrRange {
			t.Error(s, e)
		}
	}
}

// P2.1: what lies behind a slice's end is no part of the table.
func TestAtRoomBehind(t *testing.T) {
	whole := []byte("\x00abc\x00")
	if s, e := At(whole[:3], 1); s != "" || e != api.ErrForm {
		t.Error(s, e)
	}
	if s, e := At(whole[:3], 3); s != "" || e != api.ErrRange {
		t.Error(s, e)
	}
	if e := Check(whole[:3]); e != api.ErrForm {
		t.Error(e)
	}
}

// P2.1: each place of small tables, held against the table's pieces between bytes 0.
func TestAtEverywhere(t *testing.T) {
	for _, table := range tables(6, 0, 'a', 255) {
		for at := range uint64(len(table) + 3) {
			want, err := "", api.OK
			if at >= uint64(len(table)) {
				err = api.ErrRange
			} else if pieces := strings.SplitN(string(table[at:]), "\x00", 2); len(pieces) == 2 {
				want = pieces[0]
			} else {
				err = api.ErrForm
			}
			if s, e := At(table, at); s != want || e != err {
				t.Fatalf("At of %x at %d: %q, %d; want %q, %d", table, at, s, e, want, err)
			}
		}
		for back := range uint64(8) {
			if s, e := At(table, last-back); s != "" || e != api.ErrRange {
				t.Fatalf("At of %x at %d: %q, %d", table, last-back, s, e)
			}
		}
	}
}

// P2.1: a table may have more bytes than a file, and a name too.
func TestAtGreat(t *testing.T) {
	name := strings.Repeat("xyz", api.MaxFile)
	table := []byte("\x00" + name + "\x00b\x00")
	if s, e := At(table, 1); s != name || e != api.OK {
		t.Error(len(s), e)
	}
	if s, e := At(table, uint64(len(name))); s != "z" || e != api.OK {
		t.Error(s, e)
	}
	if s, e := At(table, uint64(len(name)+2)); s != "b" || e != api.OK {
		t.Error(s, e)
	}
}

// P2.1: a name stays as it is, whatever is done to the table later.
func TestAtNewMemory(t *testing.T) {
	table := []byte("\x00abc\x00")
	s, _ := At(table, 1)
	clear(table)
	if s != "abc" {
		t.Errorf("the name hangs on the table: %q", s)
	}
}

// P2.2
func TestBuild(t *testing.T) {
	for _, c := range []struct {
		l     []string
		table string
		found []uint64
	}{
		{nil, "\x00", nil},
		{[]string{}, "\x00", nil},
		{[]string{""}, "\x00", []uint64{0}},
		{[]string{"", "", ""}, "\x00", []uint64{0, 0, 0}},
		{[]string{"a"}, "\x00a\x00", []uint64{1}},
		{[]string{"a", "bc", "a"}, "\x00a\x00bc\x00", []uint64{1, 3, 1}},
		{[]string{"a", "a", "a"}, "\x00a\x00", []uint64{1, 1, 1}},
		{[]string{"", "a", "", "b", ""}, "\x00a\x00b\x00", []uint64{0, 1, 0, 3, 0}},
		{[]string{"b", "a"}, "\x00b\x00a\x00", []uint64{1, 3}},
		{[]string{"abc", "bc", "c"}, "\x00abc\x00bc\x00c\x00", []uint64{1, 5, 8}},
		{[]string{"c", "bc", "abc"}, "\x00c\x00bc\x00abc\x00", []uint64{1, 3, 6}},
		{[]string{"abc", "ab", "a"}, "\x00abc\x00ab\x00a\x00", []uint64{1, 5, 8}},
		{[]string{"a", "b", "b", "a", "c"}, "\x00a\x00b\x00c\x00", []uint64{1, 3, 3, 1, 5}},
		{[]string{"A", "a", "a ", " a"}, "\x00A\x00a\x00a \x00 a\x00", []uint64{1, 3, 5, 8}},
		{[]string{"\xff", "\xc3\x80", "\x01", "\xff"}, "\x00\xff\x00\xc3\x80\x00\x01\x00", []uint64{1, 3, 6, 1}},
	} {
		l := slices.Clone(c.l)
		table, found, e := Build(l)
		if string(table) != c.table || !slices.Equal(found, c.found) || e != api.OK {
			t.Errorf("Build of %q: %q, %d, %d; want %q, %d", c.l, table, found, e, c.table, c.found)
		}
		if !slices.Equal(l, c.l) {
			t.Errorf("Build changed %q to %q", c.l, l)
		}
	}
}

// P2.2: all short lists of names that begin, end and hold one another, with some that may not be.
func TestBuildEverywhere(t *testing.T) {
	for _, l := range lists(5, "", "a", "ab", "b", "bab", "a\x00") {
		wantTable, wantFound, want := plain(l)
		table, found, e := Build(l)
		if !bytes.Equal(table, wantTable) || !slices.Equal(found, wantFound) || e != want {
			t.Fatalf("Build of %q: %q, %d, %d; want %q, %d, %d", l, table, found, e, wantTable, wantFound, want)
		}
	}
}

// P2.2: ErrArg wherever in a name the byte 0 is, and wherever in the list the name.
func TestBuildZero(t *testing.T) {
	for _, name := range []string{"\x00", "\x00\x00", "\x00a", "a\x00", "a\x00b", strings.Repeat("a", 1000) + "\x00"} {
		for _, l := range [][]string{{name}, {name, "a"}, {"a", name}, {"", name}, {"a", name, "b"}, {name, name}, {"a", "b", "a", name}} {
			if table, found, e := Build(l); len(table) != 0 || len(found) != 0 || e != api.ErrArg {
				t.Errorf("Build of %q: %q, %d, %d", l, table, found, e)
			}
		}
	}
	for c := 1; c < 256; c++ {
		name := string([]byte{byte(c)})
		if table, found, e := Build([]string{name}); string(table) != "\x00"+name+"\x00" || !slices.Equal(found, []uint64{1}) || e != api.OK {
			t.Errorf("Build of %q: %q, %d, %d", name, table, found, e)
		}
	}
}

// P2.2: a table of just MaxFile bytes is built, and none of a byte more.
func TestBuildSize(t *testing.T) {
	// With the first byte and the one behind it, this name makes just MaxFile bytes.
	full := strings.Repeat("x", api.MaxFile-2)
	third := strings.Repeat("y", (api.MaxFile-1)/3-2)
	// So many names, each with the byte behind it, and the first byte make just MaxFile bytes too.
	lot := many((api.MaxFile - 1) / 17)
	for _, c := range []struct {
		name string
		l    []string
		want int // bytes of the table, 0 for ErrSize
	}{
		{"one byte less", []string{full[1:]}, api.MaxFile - 1},
		{"just full", []string{full}, api.MaxFile},
		{"one byte more", []string{full + "x"}, 0},
		{"two bytes more", []string{full + "xx"}, 0},
		{"a file's bytes in a name", []string{full + "xxx"}, 0},
		{"a very long name", []string{strings.Repeat("x", 5*api.MaxFile)}, 0},
		{"empty names in a full table", []string{"", full, "", ""}, api.MaxFile},
		{"names that come again in a full table", []string{full, full, "", full}, api.MaxFile},
		{"long names that come again", []string{"a", full[3:], "a", full[3:], "a"}, api.MaxFile - 1},
		{"another name behind a full table", []string{full, "x"}, 0},
		{"another name before a full one", []string{"x", full}, 0},
		{"the end of the name that fills the table", []string{full, full[api.MaxFile-3:]}, 0},
		{"a short one into the last byte", []string{full[1:], "a"}, 0},
		{"a short one into the last two bytes", []string{full[2:], "a"}, api.MaxFile},
		{"a longer one into the last two bytes", []string{full[2:], "ab"}, 0},
		{"a short one into the last three bytes", []string{full[3:], "a"}, api.MaxFile - 1},
		{"a longer one into the last three bytes", []string{full[3:], "ab"}, api.MaxFile},
		{"three names", []string{third + "a", third + "b", third + "c"}, api.MaxFile},
		{"three names and a byte", []string{third + "a", third + "b", third + "cd"}, 0},
		{"many names", lot, api.MaxFile},
		{"many names, each twice", slices.Concat(lot, lot), api.MaxFile},
		{"many names and one more", append(slices.Clone(lot), "a"), 0},
		{"one more before many names", append([]string{"a"}, lot...), 0},
	} {
		wantTable, wantFound, want := plain(c.l)
		if len(wantTable) != c.want || (want == api.ErrSize) != (c.want == 0) {
			t.Fatalf("%s: the test itself is wrong: %d bytes, %d", c.name, len(wantTable), want)
		}
		table, found, e := Build(c.l)
		if !bytes.Equal(table, wantTable) || !slices.Equal(found, wantFound) || e != want {
			t.Errorf("%s: %d bytes, %d places, %d; want %d, %d", c.name, len(table), len(found), e, c.want, want)
		}
	}
}

// P2.2: of a byte 0 ErrArg is told, also when the table would be too long, whichever comes first.
func TestBuildZeroAndSize(t *testing.T) {
	long := strings.Repeat("x", api.MaxFile)
	for _, l := range [][]string{
		{long, "\x00"},
		{"\x00", long},
		{long + "\x00"},
		{"\x00" + long},
		{long + "\x00" + long},
		{long, long, "", "a\x00b"},
		append(many(api.MaxFile), "a\x00"),
		append([]string{"a\x00"}, many(api.MaxFile)...),
	} {
		if table, found, e := Build(l); len(table) != 0 || len(found) != 0 || e != api.ErrArg {
			t.Errorf("Build of %s: %d bytes, %d places, %d", short(l), len(table), len(found), e)
		}
	}
}

// P2.2: results share nothing with one another, with the list, or with those of another call.
func TestBuildNewMemory(t *testing.T) {
	for _, names := range [][]string{nil, {""}, {"a", "bc", "a"}, many(40)} {
		wantTable, wantFound, _ := plain(names)
		whole := append(slices.Clone(names), "behind")
		l := whole[:len(names)]
		table, found, _ := Build(l)
		other, places, _ := Build(l)
		for i := range table {
			table[i] = ^table[i]
		}
		for i := range found {
			found[i] = ^found[i]
		}
		// What is appended must not fall into what belongs to somebody else.
		table, found = append(table, 9, 9, 9), append(found, 9, 9, 9)
		if !slices.Equal(whole, append(slices.Clone(names), "behind")) {
			t.Errorf("Build of %s changed its list, or shares it", short(names))
		}
		for i := range l {
			l[i] = "changed"
		}
		if !bytes.Equal(other, wantTable) || !slices.Equal(places, wantFound) {
			t.Errorf("Build of %s: results hang on a list or on other results", short(names))
		}
	}
}

// P2.2: nothing is left over from a call before.
func TestBuildAgain(t *testing.T) {
	for range 3 {
		for _, l := range [][]string{{"a", "bc", "a"}, {"bc", "a"}, {"a\x00"}, {strings.Repeat("a", api.MaxFile)}, nil} {
			wantTable, wantFound, want := plain(l)
			if table, found, e := Build(l); !bytes.Equal(table, wantTable) || !slices.Equal(found, wantFound) || e != want {
				t.Errorf("Build of %s: %q, %d, %d", short(l), table, found, e)
			}
		}
	}
}

// P2.3: At tells each name where Build says that it is, and Check accepts the table.
func TestBuildThenAt(t *testing.T) {
	// Names of all bytes but 0, of many lengths, that are pieces of one another.
	var all []byte
	for c := 255; c > 0; c-- {
		all = append(all, byte(c))
	}
	var pieces []string
	for from := range 20 {
		for size := range 20 {
			pieces = append(pieces, string(all[from*3:from*3+size*from/2]))
		}
	}
	given := lists(5, "", "a", "ab", "b", "bab", "\xff")
	given = append(given, []string{string(all)}, pieces, many(3000), slices.Concat(many(100), pieces, many(200), pieces))
	given = append(given, []string{strings.Repeat("x", api.MaxFile-4), "y", "", "y"})
	for _, l := range given {
		table, found, e := Build(l)
		if e != api.OK || len(found) != len(l) {
			t.Fatalf("Build of %s: %d places, %d", short(l), len(found), e)
		}
		if e := Check(table); e != api.OK {
			t.Fatalf("Check of what Build answers of %s: %d", short(l), e)
		}
		for i, name := range l {
			if s, e := At(table, found[i]); s != name || e != api.OK {
				t.Fatalf("At of name %d of %s: %q, %d", i, short(l), s, e)
			}
		}
	}
}
