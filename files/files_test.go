package files

import (
	"fmt"
	"slices"
	"strings"
	"testing"

	"dormouse/api"
	"dormouse/disk"
)

// step is one operation of a disk.
type step struct {
	kind     string
	name, to string
	at       int
	bytes    string
}

func creates(name string) step { return step{kind: "Create", name: name} }
func syncs(name string) step   { return step{kind: "Sync", name: name} }
func removes(name string) step { return step{kind: "Remove", name: name} }
func settles() step            { return step{kind: "SyncNames"} }

func renames(name, to string) step { return step{kind: "Rename", name: name, to: to} }

func writes(name string, at int, bytes string) step {
	return step{kind: "Write", name: name, at: at, bytes: bytes}
}

// on performs the step.
func (s step) on(d *disk.Disk) api.Errno {
	switch s.kind {
	case "Create":
		return d.Create(s.name)
	case "Write":
		return d.Write(s.name, s.at, []byte(s.bytes))
	case "Sync":
		return d.Sync(s.name)
	case "Rename":
		return d.Rename(s.name, s.to)
	case "Remove":
		return d.Remove(s.name)
	}
	return d.SyncNames()
}

// list is some lists of steps as one.
func list(parts ...[]step) []step { return slices.Concat(parts...) }

// stored is a file whose bytes and name are durable.
func stored(name, bytes string) []step {
	return []step{creates(name), writes(name, 0, bytes), syncs(name), settles()}
}

// done performs steps up to the first error.
func done(d *disk.Disk, steps []step) api.Errno {
	for _, s := range steps {
		if e := s.on(d); e != api.OK {
			return e
		}
	}
	return api.OK
}

// made is a disk on which steps were performed, none of which had an error.
func made(t *testing.T, room int, steps []step) *disk.Disk {
	t.Helper()
	d := disk.New(room)
	if e := done(d, steps); e != api.OK {
		t.Fatalf("%v: %d", steps, e)
	}
	return d
}

// text is so many bytes, by which a piece at a wrong place is seen.
func text(n int) string {
	b := make([]byte, n)
	for i := range b {
		b[i] = byte(i % 251)
	}
	return string(b)
}

// other is so many bytes, none of which stands where text has it.
func other(n int) string {
	b := []byte(text(n))
	for i := range b {
		b[i] ^= 255
	}
	return string(b)
}

// keeps are all lists of so many bools.
func keeps(n int) [][]bool {
	var l [][]bool
	for x := range 1 << n {
		keep := make([]bool, n)
		for i := range keep {
			keep[i] = x>>i&1 == 1
		}
		l = append(l, keep)
	}
	return l
}

// told is all that a disk tells.
func told(d *disk.Disk) string {
	var l []string
	for _, name := range d.Names() {
		b, e := d.Read(name)
		l = append(l, fmt.Sprintf("%q: %q %d", name, b, e))
	}
	return fmt.Sprint(l, d.Used(), d.Pending(), d.Off())
}

// call is one on a disk.
type call func(d *disk.Disk) api.Errno

// replace is a Replace.
func replace(name, bytes string) call {
	return func(d *disk.Disk) api.Errno { return Replace(d, name, []byte(bytes)) }
}

// performs fails the test unless a call behind ready performs these steps up to the first error: wherever the power goes, and whatever is kept.
func performs(t *testing.T, room int, ready []step, c call, want ...step) {
	t.Helper()
	for cut := range len(want) + 3 {
		both := func() (*disk.Disk, *disk.Disk) {
			d, o := made(t, room, ready), made(t, room, ready)
			d.Cut(cut)
			o.Cut(cut)
			if e, wanted := c(d), done(o, want); e != wanted {
				t.Fatalf("Cut(%d): %d; want %d", cut, e, wanted)
			}
			return d, o
		}
		d, o := both()
		if got, wanted := told(d), told(o); got != wanted {
			t.Fatalf("Cut(%d): %s; want %s", cut, got, wanted)
		}
		n := o.Pending()
		// Whether the loss is still planned is seen by the next operation.
		if e, wanted := d.SyncNames(), o.SyncNames(); e != wanted {
			t.Fatalf("behind Cut(%d): %d; want %d", cut, e, wanted)
		}
		for _, keep := range keeps(n) {
			d, o := both()
			d.Crash(keep)
			o.Crash(keep)
			if got, wanted := told(d), told(o); got != wanted {
				t.Fatalf("Cut(%d), Crash(%v): %s; want %s", cut, keep, got, wanted)
			}
		}
	}
}

// counts fails the test unless a call behind ready is OK, and so many operations.
func counts(t *testing.T, ready []step, c call, n int) {
	t.Helper()
	for cut := range n {
		d := made(t, 1000, ready)
		d.Cut(cut + 1)
		if e := c(d); e != api.ErrPower || !d.Off() {
			t.Fatalf("Cut(%d): %d, %t; want %d operations", cut+1, e, d.Off(), n)
		}
	}
	d := made(t, 1000, ready)
	d.Cut(n + 1)
	if e := c(d); e != api.OK || d.Off() {
		t.Fatalf("Cut(%d): %d, %t; want %d operations", n+1, e, d.Off(), n)
	}
	if e := d.SyncNames(); e != api.ErrPower {
		t.Fatalf("behind %d operations: %d", n, e)
	}
}

// loads fails the test unless a file has these bytes.
func loads(t *testing.T, d *disk.Disk, name, want string) {
	t.Helper()
	if b, e := Load(d, name); string(b) != want || e != api.OK {
		t.Fatalf("Load of %q: %q, %d; want %q", name, b, e, want)
	}
}

// off is a disk behind steps without power.
func off(t *testing.T, steps []step) *disk.Disk {
	t.Helper()
	d := made(t, 1000, steps)
	d.Cut(1)
	if e := d.SyncNames(); e != api.ErrPower {
		t.Fatal(e)
	}
	return d
}

// wrongNames are the empty one and those of temporary files.
var wrongNames = []string{"", "new.", "new.a", "new.new.a", "new.new.", "new..", "new.\x00", "new.\xff", "new. a"}

// rightNames are others, some of which begin nearly like those of temporary files.
var rightNames = []string{"a", "new", "newa", "anew.", "anew.a", "ne", "n", ".", ".new", "New.a", "NEW.a", "nwe.a", " new.a", "new .a", "new,a", "new/a", "nev.a", "\x00", "\xff\xfe", "é"}

// piece is where a Write begins and how many bytes it has.
type piece struct{ at, size int }

// sizes are lengths of what is written, and the Writes of it.
var sizes = []struct {
	n      int
	writes []piece
}{
	{0, nil},
	{1, []piece{{0, 1}}},
	{2, []piece{{0, 2}}},
	{63, []piece{{0, 63}}},
	{64, []piece{{0, 64}}},
	{65, []piece{{0, 64}, {64, 1}}},
	{100, []piece{{0, 64}, {64, 36}}},
	{127, []piece{{0, 64}, {64, 63}}},
	{128, []piece{{0, 64}, {64, 64}}},
	{129, []piece{{0, 64}, {64, 64}, {128, 1}}},
	{200, []piece{{0, 64}, {64, 64}, {128, 64}, {192, 8}}},
}

// steps are those of a Replace behind the removal of what was left.
func steps(name, bytes string, l []piece) []step {
	out := []step{creates("new." + name)}
	for _, p := range l {
		out = append(out, writes("new."+name, p.at, bytes[p.at:p.at+p.size]))
	}
	return append(out, syncs("new."+name), renames("new."+name, name), settles())
}

// The chapter's examples.
func TestExamples(t *testing.T) {
	if Chunk != 64 {
		t.Error(Chunk)
	}
	behind := func() *disk.Disk {
		d := disk.New(1000)
		if e := Replace(d, "a", []byte(text(100))); e != api.OK {
			t.Fatal(e)
		}
		d.Cut(3)
		if e := Replace(d, "a", []byte(other(200))); e != api.ErrPower {
			t.Fatal(e)
		}
		return d
	}
	for _, keep := range keeps(behind().Pending()) {
		d := behind()
		d.Crash(keep)
		loads(t, d, "a", text(100))
	}
	if e := Replace(disk.New(1000), "new.a", nil); e != api.ErrArg {
		t.Error(e)
	}
	performs(t, 1000, nil, replace("a", text(100)),
		creates("new.a"), writes("new.a", 0, text(100)[:64]), writes("new.a", 64, text(100)[64:]),
		syncs("new.a"), renames("new.a", "a"), settles())
	counts(t, nil, replace("a", text(100)), 6)
}

// P11.1, P11.2: no disk.
func TestNil(t *testing.T) {
	for _, name := range slices.Concat(wrongNames, rightNames) {
		for _, b := range [][]byte{nil, {}, {1}, make([]byte, 129)} {
			if e := Replace(nil, name, b); e != api.ErrArg {
				t.Errorf("Replace of %q: %d", name, e)
			}
		}
		if b, e := Load(nil, name); b != nil || e != api.ErrArg {
			t.Errorf("Load of %q: %v, %d", name, b, e)
		}
	}
	if e := Tidy(nil); e != api.ErrArg {
		t.Error(e)
	}
}

// P11.1, P11.2: names that are refused, ahead of everything else, and without an operation.
func TestWrongNames(t *testing.T) {
	ready := list(stored("a", "xy"), stored("new.a", "z"), stored("new.", "t"), stored("new.new.a", "u"))
	for _, name := range wrongNames {
		performs(t, 1000, ready, func(d *disk.Disk) api.Errno {
			if e := Replace(d, name, []byte(text(65))); e != api.ErrArg {
				t.Errorf("Replace of %q: %d", name, e)
			}
			if b, e := Load(d, name); b != nil || e != api.ErrArg {
				t.Errorf("Load of %q: %v, %d", name, b, e)
			}
			return api.OK
		})
		d := off(t, ready)
		if e := Replace(d, name, nil); e != api.ErrArg {
			t.Errorf("Replace of %q without power: %d", name, e)
		}
		if b, e := Load(d, name); b != nil || e != api.ErrArg {
			t.Errorf("Load of %q without power: %v, %d", name, b, e)
		}
	}
}

// P11.1, P11.2: names that are not refused.
func TestRightNames(t *testing.T) {
	for _, name := range rightNames {
		d := disk.New(1000)
		for _, b := range []string{text(65), "", other(3)} {
			if e := Replace(d, name, []byte(b)); e != api.OK {
				t.Fatalf("Replace of %q: %d", name, e)
			}
			loads(t, d, name, b)
			if l := d.Names(); !slices.Equal(l, []string{name}) || d.Pending() != 0 {
				t.Errorf("Replace of %q: %q, %d", name, l, d.Pending())
			}
		}
		performs(t, 1000, stored(name, "xy"), replace(name, "z"), steps(name, "z", []piece{{0, 1}})...)
	}
}

// P11.1: all sizes; the file was not there, or was shorter, as long or longer.
func TestReplace(t *testing.T) {
	for _, c := range sizes {
		b := text(c.n)
		performs(t, 1000, nil, replace("a", b), steps("a", b, c.writes)...)
		for _, before := range []int{0, 1, 64, c.n, c.n + 1, 300} {
			performs(t, 1000, stored("a", other(before)), replace("a", b), steps("a", b, c.writes)...)
			d := made(t, 1000, stored("a", other(before)))
			if e := Replace(d, "a", []byte(b)); e != api.OK {
				t.Fatal(e)
			}
			loads(t, d, "a", b)
			if d.Used() != c.n || d.Pending() != 0 {
				t.Errorf("%d bytes: %d, %d", c.n, d.Used(), d.Pending())
			}
		}
	}
	performs(t, 1000, nil, func(d *disk.Disk) api.Errno { return Replace(d, "a", nil) }, steps("a", "", nil)...)
}

// P11.1: how many operations a Replace is, without a temporary file and with one.
func TestReplaceCount(t *testing.T) {
	for n, want := range map[int]int{0: 4, 1: 5, 63: 5, 64: 5, 65: 6, 100: 6, 127: 6, 128: 6, 129: 7, 192: 7, 193: 8} {
		c := replace("a", text(n))
		counts(t, nil, c, want)
		counts(t, stored("a", other(100)), c, want)
		counts(t, stored("new.b", other(100)), c, want)
		counts(t, stored("new.a", other(100)), c, want+2)
		counts(t, []step{creates("new.a")}, c, want+2)
	}
	none := func(d *disk.Disk) api.Errno { return Replace(d, "a", nil) }
	counts(t, nil, none, 4)
	counts(t, stored("new.a", "x"), none, 6)
}

// P11.1: great contents, of which all pieces are in their places.
func TestReplaceGreat(t *testing.T) {
	for _, n := range []int{4095, 4096, 4097, 65536, 70001} {
		d := disk.New(n)
		if e := Replace(d, "a", []byte(text(n))); e != api.OK {
			t.Fatal(n, e)
		}
		d.Crash(nil)
		if b, e := Load(d, "a"); string(b) != text(n) || e != api.OK {
			t.Fatal(n, len(b), e)
		}
	}
}

// P11.1: a temporary file of that name is removed, and that is made sure, ahead of all else; those of other names stay.
func TestReplaceLeft(t *testing.T) {
	gone := []step{removes("new.a"), settles()}
	others := list(stored("new.", "t"), stored("new.aa", "u"), stored("new.b", "v"), stored("new.new.a", "w"), stored("b", "z"))
	for _, c := range sizes {
		b := text(c.n)
		plain := steps("a", b, c.writes)
		for _, before := range [][]step{nil, stored("a", other(70))} {
			for _, left := range [][]step{
				stored("new.a", other(3)),
				stored("new.a", other(300)),
				{creates("new.a")},
				{creates("new.a"), settles()},
				{creates("new.a"), writes("new.a", 0, other(3)), syncs("new.a")},
			} {
				performs(t, 1000, list(before, left), replace("a", b), list(gone, plain)...)
			}
			performs(t, 1000, list(before, others), replace("a", b), plain...)
		}
		performs(t, 1000, list(others, stored("new.a", "x")), replace("a", b), list(gone, plain)...)
	}
	performs(t, 1000, list(stored("new.a", "x"), []step{removes("new.a")}), replace("a", "y"), steps("a", "y", []piece{{0, 1}})...)
	performs(t, 1000, list(stored("new.a", "x"), []step{renames("new.a", "b")}), replace("a", "y"), steps("a", "y", []piece{{0, 1}})...)
	performs(t, 1000, list(stored("b", "x"), []step{renames("b", "new.a")}), replace("a", "y"), list(gone, steps("a", "y", []piece{{0, 1}}))...)
}

// P11.1: pending changes of other files are as the operations leave them.
func TestReplacePending(t *testing.T) {
	ready := list(stored("a", "xy"), stored("b", "z"), []step{writes("b", 1, "!"), creates("c")})
	performs(t, 1000, ready, replace("a", text(65)), steps("a", text(65), []piece{{0, 64}, {64, 1}})...)
	performs(t, 1000, list(ready, []step{writes("a", 1, "!")}), replace("a", "t"), steps("a", "t", []piece{{0, 1}})...)
	d := made(t, 1000, ready)
	if e := Replace(d, "a", []byte("t")); e != api.OK || d.Pending() != 1 {
		t.Fatal(e, d.Pending())
	}
	d.Crash(nil)
	loads(t, d, "a", "t")
	loads(t, d, "b", "z")
	loads(t, d, "c", "")
}

// P11.1: the room is full at the first Write, at a later one, and just not.
func TestReplaceRoom(t *testing.T) {
	b := text(129)
	all := steps("a", b, []piece{{0, 64}, {64, 64}, {128, 1}})
	for _, c := range []struct{ room, performed int }{
		{100, 2}, {101, 2}, {163, 2}, {164, 3}, {165, 3}, {227, 3}, {228, 4}, {229, 7}, {230, 7},
	} {
		ready := stored("a", other(100))
		performs(t, c.room, ready, replace("a", b), all[:c.performed]...)
		left := list(ready, stored("new.b", ""), []step{creates("new.a"), settles()})
		performs(t, c.room, left, replace("a", b), list([]step{removes("new.a"), settles()}, all[:c.performed])...)
		d := made(t, c.room, ready)
		e := Replace(d, "a", []byte(b))
		if c.performed == 7 {
			loads(t, d, "a", b)
			if e != api.OK || d.Used() != 129 {
				t.Fatal(c, e, d.Used())
			}
			continue
		}
		if want := 100 + 64*(c.performed-2); e != api.ErrFull || d.Used() != want || d.Off() {
			t.Fatalf("room %d: %d, %d, %t", c.room, e, d.Used(), d.Off())
		}
		loads(t, d, "a", other(100))
		if b, e := d.Read("new.a"); string(b) != text(64*(c.performed-2)) || e != api.OK {
			t.Fatalf("room %d: %q, %d", c.room, b, e)
		}
	}
}

// P11.1: an empty room takes no bytes, but no bytes.
func TestReplaceNoRoom(t *testing.T) {
	performs(t, 0, nil, replace("a", ""), steps("a", "", nil)...)
	performs(t, 0, nil, replace("a", "x"), creates("new.a"), writes("new.a", 0, "x"))
	if e := Replace(disk.New(0), "a", []byte("x")); e != api.ErrFull {
		t.Error(e)
	}
}

// P11.1: what a temporary file takes of the room is there for the new bytes.
func TestReplaceRoomOfLeft(t *testing.T) {
	ready := list(stored("a", "0123"), stored("new.a", "uvwxyz"))
	d := made(t, 10, ready)
	if e := Replace(d, "a", []byte("UVWXYZ")); e != api.OK || d.Used() != 6 {
		t.Fatal(e, d.Used())
	}
	loads(t, d, "a", "UVWXYZ")
	d = made(t, 10, ready)
	if e := Replace(d, "b", []byte("U")); e != api.ErrFull {
		t.Fatal(e)
	}
	if e := Tidy(d); e != api.OK {
		t.Fatal(e)
	}
	if e := Replace(d, "b", []byte("UVWXYZ")); e != api.OK {
		t.Fatal(e)
	}
	d = made(t, 10, stored("a", "0123"))
	for range 3 {
		if e := Replace(d, "a", []byte(text(7))); e != api.ErrFull {
			t.Fatal(e)
		}
		loads(t, d, "a", "0123")
	}
	if e := Replace(d, "a", []byte(text(6))); e != api.OK {
		t.Fatal(e)
	}
	loads(t, d, "a", text(6))
}

// P11.1: Replace without power changes nothing.
func TestReplaceOff(t *testing.T) {
	for _, ready := range [][]step{nil, stored("a", "xy"), stored("new.a", "z"), list(stored("a", "xy"), stored("new.a", "z"), []step{creates("b")})} {
		for _, b := range []string{"", "x", text(129), text(2000)} {
			d := off(t, ready)
			if e := Replace(d, "a", []byte(b)); e != api.ErrPower {
				t.Errorf("%v, %d bytes: %d", ready, len(b), e)
			}
			if got, want := told(d), told(off(t, ready)); got != want {
				t.Errorf("%v, %d bytes: %s; want %s", ready, len(b), got, want)
			}
			d.Crash(nil)
			o := made(t, 1000, ready)
			o.Crash(nil)
			if got, want := told(d), told(o); got != want {
				t.Errorf("%v, %d bytes: %s; want %s", ready, len(b), got, want)
			}
		}
	}
}

// P11.1: the bytes that are handed in are neither changed nor kept.
func TestReplaceArgument(t *testing.T) {
	for _, c := range sizes {
		whole := []byte(text(c.n + 100))
		b := whole[:c.n]
		d := disk.New(1000)
		if e := Replace(d, "a", b); e != api.OK {
			t.Fatal(e)
		}
		if string(whole) != text(c.n+100) {
			t.Errorf("%d bytes are changed, or those behind them", c.n)
		}
		for i := range whole {
			whole[i] ^= 255
		}
		loads(t, d, "a", text(c.n))
		d.Crash(nil)
		loads(t, d, "a", text(c.n))
		b = []byte(other(c.n))
		// The renaming is pending then.
		d.Cut(4 + len(c.writes))
		if e := Replace(d, "a", b); e != api.ErrPower {
			t.Fatal(e)
		}
		clear(b)
		d.Crash([]bool{true, true})
		loads(t, d, "a", other(c.n))
	}
}

// P11.2: Load is Read of a file that is there and of one that isn't, with power and without.
func TestLoad(t *testing.T) {
	ready := list(stored("a", "xy"), stored("e", ""), stored("new.b", "z"), []step{writes("a", 2, "!"), creates("c")})
	d := made(t, 1000, ready)
	for name, want := range map[string]string{"a": "xy!", "c": "", "e": ""} {
		loads(t, d, name, want)
	}
	for _, name := range []string{"b", "d", "A", "a ", "xy"} {
		if b, e := Load(d, name); b != nil || e != api.ErrNone {
			t.Errorf("Load of %q: %v, %d", name, b, e)
		}
	}
	d = off(t, ready)
	for _, name := range []string{"a", "b", "c", "e"} {
		if b, e := Load(d, name); b != nil || e != api.ErrPower {
			t.Errorf("Load of %q without power: %v, %d", name, b, e)
		}
	}
	d.Crash(nil)
	loads(t, d, "a", "xy")
	if b, e := Load(d, "c"); b != nil || e != api.ErrNone {
		t.Errorf("%v, %d", b, e)
	}
}

// P11.2: what Load returns is new memory.
func TestLoadMemory(t *testing.T) {
	d := made(t, 1000, list(stored("a", "xyz"), []step{writes("a", 0, "uvw")}))
	b, e := Load(d, "a")
	if e != api.OK {
		t.Fatal(e)
	}
	clear(b[:cap(b)])
	loads(t, d, "a", "uvw")
	b, _ = Load(d, "a")
	_ = append(b[:1], "!!"...)
	loads(t, d, "a", "uvw")
	d.Crash(nil)
	loads(t, d, "a", "xyz")
}

// P11.2: Load is no operation.
func TestLoadCount(t *testing.T) {
	performs(t, 1000, list(stored("a", "x"), []step{creates("b")}), func(d *disk.Disk) api.Errno {
		for _, name := range []string{"a", "b", "c", "", "new.a"} {
			Load(d, name)
		}
		return api.OK
	})
}

// P11.2: Tidy without a temporary file is no operation, also without power.
func TestTidyNothing(t *testing.T) {
	var near []step
	for _, name := range rightNames {
		near = append(near, creates(name))
	}
	for _, ready := range [][]step{
		nil, stored("a", "x"), {creates("a"), writes("a", 0, "x")}, near,
		list(stored("new.a", "x"), []step{removes("new.a")}),
		list(stored("new.a", "x"), []step{renames("new.a", "a")}),
	} {
		d := made(t, 1000, ready)
		before := told(d)
		d.Cut(1)
		if e := Tidy(d); e != api.OK || told(d) != before {
			t.Errorf("%v: %d, %s", ready, e, told(d))
		}
		if e := d.SyncNames(); e != api.ErrPower {
			t.Errorf("%v: the loss is not planned any more: %d", ready, e)
		}
		if e := Tidy(d); e != api.OK || !d.Off() {
			t.Errorf("%v without power: %d", ready, e)
		}
	}
	performs(t, 1000, []step{creates("a"), writes("a", 0, "x"), creates("newa"), creates("new")}, Tidy)
}

// P11.2: Tidy removes all temporary files, by rising names, and makes it sure at the end.
func TestTidy(t *testing.T) {
	performs(t, 1000, stored("new.a", "x"), Tidy, removes("new.a"), settles())
	performs(t, 1000, stored("new.", "x"), Tidy, removes("new."), settles())
	performs(t, 1000, []step{creates("new.a")}, Tidy, removes("new.a"), settles())
	performs(t, 1000, list(stored("a", "x"), []step{renames("a", "new.a")}), Tidy, removes("new.a"), settles())
	several := list(
		stored("new.b", "u"), stored("newa", "v"), stored("new.a", "w"), stored("a", "x"), stored("new.", "y"), stored("new", "z"),
		stored("new.new.a", "U"), stored("new/", "V"), stored("new-", "W"), stored("new.aa", "X"), stored("anew.", "Y"), []step{creates("b")},
	)
	performs(t, 1000, several, Tidy, removes("new."), removes("new.a"), removes("new.aa"), removes("new.b"), removes("new.new.a"), settles())
	counts(t, several, Tidy, 6)
	d := made(t, 1000, several)
	for range 2 {
		if e := Tidy(d); e != api.OK || d.Pending() != 0 {
			t.Fatal(e, d.Pending())
		}
		if l := d.Names(); !slices.Equal(l, []string{"a", "anew.", "b", "new", "new-", "new/", "newa"}) {
			t.Fatalf("%q", l)
		}
		d.Crash(nil)
	}
	for name, want := range map[string]string{"a": "x", "anew.": "Y", "b": "", "new": "z", "new-": "W", "new/": "V", "newa": "v"} {
		loads(t, d, name, want)
	}
}

// P11.2: names of many kinds in their order, whichever was made first.
func TestTidyOrder(t *testing.T) {
	names := []string{"new.", "new.\x00", "new..", "new.0", "new.A", "new.a", "new.a.", "new.ab", "new.b", "new.\xc3\xa9", "new.\xff"}
	var want []step
	for _, name := range names {
		want = append(want, removes(name))
	}
	want = append(want, settles())
	backward := slices.Clone(names)
	slices.Reverse(backward)
	for _, l := range [][]string{names, backward} {
		var ready []step
		for _, name := range l {
			ready = append(ready, creates(name))
		}
		performs(t, 1000, append(ready, settles()), Tidy, want...)
	}
}

// P11.2: Tidy without power.
func TestTidyOff(t *testing.T) {
	for _, ready := range [][]step{stored("new.a", "x"), stored("new.", ""), list(stored("a", "x"), stored("new.a", "y"), stored("new.b", "z"))} {
		d := off(t, ready)
		if e := Tidy(d); e != api.ErrPower {
			t.Error(e)
		}
		if got, want := told(d), told(off(t, ready)); got != want {
			t.Errorf("%s; want %s", got, want)
		}
		d.Crash(nil)
		if got, want := told(d), told(made(t, 1000, ready)); got != want {
			t.Errorf("%s; want %s", got, want)
		}
	}
}

// P11.1, P11.2: disks are apart.
func TestTwoDisks(t *testing.T) {
	d, o := disk.New(1000), disk.New(1000)
	if e := Replace(d, "a", []byte("x")); e != api.OK {
		t.Fatal(e)
	}
	if e := Replace(o, "a", []byte("y")); e != api.OK {
		t.Fatal(e)
	}
	o.Cut(2)
	if e := Replace(o, "a", []byte("z")); e != api.ErrPower {
		t.Fatal(e)
	}
	if e := Replace(d, "a", []byte(strings.Repeat("x", 65))); e != api.OK {
		t.Fatal(e)
	}
	o.Crash(nil)
	loads(t, o, "a", "y")
	loads(t, d, "a", strings.Repeat("x", 65))
}
