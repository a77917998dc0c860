package disk

import (
	"fmt"
	"math"
	"slices"
	"strings"
	"testing"

	"dormouse/api"
)

// call is one of the six calls that can be operations.
type call struct {
	kind     string
	name, to string
	at       int
	bytes    string
}

func create(name string) call     { return call{kind: "Create", name: name} }
func sync(name string) call       { return call{kind: "Sync", name: name} }
func remove(name string) call     { return call{kind: "Remove", name: name} }
func rename(name, to string) call { return call{kind: "Rename", name: name, to: to} }
func syncNames() call             { return call{kind: "SyncNames"} }

func write(name string, at int, bytes string) call {
	return call{kind: "Write", name: name, at: at, bytes: bytes}
}

// on makes the call.
func (c call) on(d *Disk) api.Errno {
	switch c.kind {
	case "Create":
		return d.Create(c.name)
	case "Write":
		return d.Write(c.name, c.at, []byte(c.bytes))
	case "Sync":
		return d.Sync(c.name)
	case "Rename":
		return d.Rename(c.name, c.to)
	case "Remove":
		return d.Remove(c.name)
	}
	return d.SyncNames()
}

// list is some calls as one.
func list(parts ...[]call) []call { return slices.Concat(parts...) }

// stored is a file whose bytes and name are durable.
func stored(name, bytes string) []call {
	return []call{create(name), write(name, 0, bytes), sync(name), syncNames()}
}

// good makes calls, none of which has an error.
func good(t *testing.T, d *Disk, calls ...call) {
	t.Helper()
	for i, c := range calls {
		if e := c.on(d); e != api.OK {
			t.Fatalf("call %d of %v: %d", i, calls, e)
		}
	}
}

// made is a disk on which calls were made, none of which had an error.
func made(t *testing.T, room int, calls ...call) *Disk {
	t.Helper()
	d := New(room)
	good(t, d, calls...)
	return d
}

// bits are the elements that a text of 0 and 1 tells.
func bits(text string) []bool {
	var l []bool
	for _, c := range text {
		l = append(l, c == '1')
	}
	return l
}

// keeps are all texts of 0 and 1 of so many bytes.
func keeps(n int) []string {
	l := []string{""}
	for range n {
		var longer []string
		for _, s := range l {
			longer = append(longer, s+"0", s+"1")
		}
		l = longer
	}
	return l
}

// shown is all that a disk with power tells, as "a:xy b: 2 3" of the files, Used and Pending.
func shown(t *testing.T, d *Disk) string {
	t.Helper()
	var l []string
	for _, name := range d.Names() {
		b, e := d.Read(name)
		if e != api.OK {
			t.Fatalf("Read of %q: %d", name, e)
		}
		l = append(l, name+":"+string(b))
	}
	if d.Off() {
		t.Fatal("no power")
	}
	return strings.Join(append(l, fmt.Sprint(d.Used(), " ", d.Pending())), " ")
}

// has fails the test unless a disk tells this.
func has(t *testing.T, d *Disk, want string) {
	t.Helper()
	if s := shown(t, d); s != want {
		t.Fatalf("there is %s; want %s", s, want)
	}
}

// crashed fails the test unless a crash with keep leaves these files; wherever the power goes again, they are durable.
func crashed(t *testing.T, d *Disk, keep, want string) {
	t.Helper()
	d.Crash(bits(keep))
	has(t, d, want)
	d.Crash(bits("11111111"))
	has(t, d, want)
}

// fails fails the test unless a call behind others answers an error, and changes nothing, whatever a crash then keeps.
func fails(t *testing.T, room int, calls []call, c call, err api.Errno) {
	t.Helper()
	n := made(t, room, calls...).Pending()
	for _, keep := range keeps(n) {
		d, other := made(t, room, calls...), made(t, room, calls...)
		if e := c.on(d); e != err {
			t.Fatalf("%v behind %v: %d; want %d", c, calls, e, err)
		}
		has(t, d, shown(t, other))
		other.Crash(bits(keep))
		crashed(t, d, keep, shown(t, other))
	}
}

// six are the calls that can be operations, none of which has an error of its own on the disk of ready.
var six = []call{create("c"), write("a", 1, "uvw"), sync("a"), rename("a", "b"), remove("a"), syncNames()}

// ready are the calls behind which each of the six may be made and has something to do.
var ready = list(stored("a", "xy"), stored("b", "z"), []call{write("a", 2, "t"), create("d")})

// wrongs are calls with all errors of their own, on the disk of ready with room for 10 bytes.
var wrongs = []struct {
	call
	e api.Errno
}{
	{create(""), api.ErrArg},
	{create("a"), api.ErrThere},
	{create("d"), api.ErrThere},
	{write("c", 0, "x"), api.ErrNone},
	{write("c", -1, "01234567890"), api.ErrNone},
	{write("", 0, ""), api.ErrNone},
	{write("a", -1, "x"), api.ErrArg},
	{write("a", -1, ""), api.ErrArg},
	{write("a", math.MinInt, "x"), api.ErrArg},
	{write("a", 4, ""), api.ErrArg},
	{write("a", 4, "01234567890"), api.ErrArg},
	{write("a", math.MaxInt, "x"), api.ErrArg},
	{write("d", 1, ""), api.ErrArg},
	{write("a", 3, "0123456"), api.ErrFull},
	{write("a", 0, "0123456789"), api.ErrFull},
	{write("d", 0, "0123456"), api.ErrFull},
	{sync("c"), api.ErrNone},
	{sync(""), api.ErrNone},
	{rename("c", "e"), api.ErrNone},
	{rename("c", ""), api.ErrNone},
	{rename("c", "c"), api.ErrNone},
	{rename("c", "a"), api.ErrNone},
	{rename("", ""), api.ErrNone},
	{rename("a", ""), api.ErrArg},
	{remove("c"), api.ErrNone},
	{remove(""), api.ErrNone},
}

// The chapter's examples.
func TestExamples(t *testing.T) {
	fails(t, 10, []call{create("a"), write("a", 0, "x")}, write("a", 0, "01234567890"), api.ErrFull)
	if n := made(t, 10, create("a"), write("a", 0, "x")).Pending(); n != 2 {
		t.Error(n)
	}
	d := made(t, 10, create("a"))
	d.Cut(1)
	if e := d.Remove("a"); e != api.ErrPower || !d.Off() {
		t.Error(e, d.Off())
	}
	crashed(t, made(t, 10, create("a"), write("a", 0, "yz"), sync("a"), syncNames()), "", "a:yz 2 0")
	crashed(t, made(t, 10, create("a"), write("a", 0, "x")), "1", "a: 0 0")
	crashed(t, made(t, 10, create("a"), write("a", 0, "x"), sync("a"), syncNames()), "", "a:x 1 0")
}

// P10.1: a new disk has no files, and power.
func TestNew(t *testing.T) {
	for _, room := range []int{math.MinInt, -1, 0, 1, 10, math.MaxInt} {
		d := New(room)
		has(t, d, "0 0")
		if l := d.Names(); len(l) != 0 {
			t.Error(room, l)
		}
		if b, e := d.Read("a"); b != nil || e != api.ErrNone {
			t.Error(room, b, e)
		}
	}
}

// P10.1: the room is as asked for, and 0 if that is below 0.
func TestNewRoom(t *testing.T) {
	for _, room := range []int{math.MinInt, -20, -1, 0} {
		fails(t, room, []call{create("a")}, write("a", 0, "x"), api.ErrFull)
		has(t, made(t, room, create("a"), write("a", 0, "")), "a: 0 2")
	}
	for _, room := range []int{1, 2, 3, 10, 257} {
		text := strings.Repeat("x", room)
		fails(t, room, []call{create("a")}, write("a", 0, text+"x"), api.ErrFull)
		has(t, made(t, room, create("a"), write("a", 0, text)), fmt.Sprint("a:", text, " ", room, " 2"))
	}
	good(t, New(math.MaxInt), create("a"), write("a", 0, strings.Repeat("x", 70000)))
}

// P10.1: disks are apart.
func TestTwoDisks(t *testing.T) {
	d, other := New(10), New(10)
	good(t, d, stored("a", "xy")...)
	has(t, other, "0 0")
	d.Cut(1)
	good(t, other, create("b"))
	has(t, other, "b: 0 1")
	has(t, d, "a:xy 2 0")
}

// P10.1, P10.2: each call's own errors; behind them the call is none that counts.
func TestOwnErrors(t *testing.T) {
	for _, c := range wrongs {
		fails(t, 10, ready, c.call, c.e)
		d := made(t, 10, ready...)
		d.Cut(1)
		if e := c.on(d); e != c.e || d.Off() {
			t.Errorf("%v at the planned loss: %d, %t", c, e, d.Off())
		}
		has(t, d, "a:xyt b:z d: 4 2")
		if e := d.SyncNames(); e != api.ErrPower || !d.Off() {
			t.Errorf("%v was counted: %d, %t", c, e, d.Off())
		}
	}
}

// P10.1: without power there is no other error, and nothing happens.
func TestNoPower(t *testing.T) {
	calls := slices.Clone(six)
	for _, c := range wrongs {
		calls = append(calls, c.call)
	}
	for _, c := range calls {
		for _, keep := range keeps(2) {
			d, other := made(t, 10, ready...), made(t, 10, ready...)
			d.Cut(1)
			if e := d.SyncNames(); e != api.ErrPower {
				t.Fatal(e)
			}
			for range 3 {
				if e := c.on(d); e != api.ErrPower || !d.Off() {
					t.Fatalf("%v without power: %d, %t", c, e, d.Off())
				}
			}
			if l := d.Names(); !slices.Equal(l, []string{"a", "b", "d"}) || d.Used() != 4 || d.Pending() != 2 {
				t.Fatalf("behind %v: %q, %d, %d", c, l, d.Used(), d.Pending())
			}
			other.Crash(bits(keep))
			crashed(t, d, keep, shown(t, other))
		}
	}
}

// P10.1, P10.4: each of the six at the operation at which the power goes has no other effect.
func TestPlannedLoss(t *testing.T) {
	for _, c := range six {
		for _, keep := range keeps(4) {
			d, other := made(t, 10, ready...), made(t, 10, ready...)
			d.Cut(1)
			if e := c.on(d); e != api.ErrPower || !d.Off() {
				t.Fatalf("%v at the planned loss: %d, %t", c, e, d.Off())
			}
			if l := d.Names(); !slices.Equal(l, []string{"a", "b", "d"}) || d.Used() != 4 || d.Pending() != 2 {
				t.Fatalf("behind %v: %q, %d, %d", c, l, d.Used(), d.Pending())
			}
			other.Crash(bits(keep))
			crashed(t, d, keep, shown(t, other))
		}
	}
}

// P10.2: Create.
func TestCreate(t *testing.T) {
	has(t, made(t, 10, create("a")), "a: 0 1")
	has(t, made(t, 10, create("a"), create("b"), create("\xff\x00 é")), "a: b: \xff\x00 é: 0 3")
	for _, keep := range []string{"", "0", "01"} {
		crashed(t, made(t, 10, create("a")), keep, "0 0")
	}
	crashed(t, made(t, 10, create("a")), "1", "a: 0 0")
	fails(t, 10, nil, create(""), api.ErrArg)
	fails(t, 10, []call{create("a"), write("a", 0, "x")}, create("a"), api.ErrThere)
	fails(t, 10, stored("a", "x"), create("a"), api.ErrThere)
	fails(t, 10, []call{create("a"), rename("a", "b")}, create("b"), api.ErrThere)
	d := made(t, 10, stored("a", "x")...)
	d.Crash(nil)
	if e := d.Create("a"); e != api.ErrThere {
		t.Error(e)
	}
}

// P10.2: Create of a name that was removed or renamed away makes another file.
func TestCreateAgain(t *testing.T) {
	gone := list(stored("a", "xy"), []call{remove("a"), create("a")})
	has(t, made(t, 10, gone...), "a: 0 2")
	crashed(t, made(t, 10, gone...), "00", "a:xy 2 0")
	crashed(t, made(t, 10, gone...), "10", "0 0")
	crashed(t, made(t, 10, gone...), "01", "a: 0 0")
	crashed(t, made(t, 10, gone...), "11", "a: 0 0")
	crashed(t, made(t, 10, list(gone, []call{sync("a")})...), "00", "a:xy 2 0")
	crashed(t, made(t, 10, list(gone, []call{write("a", 0, "z"), sync("a")})...), "01", "a:z 1 0")
	moved := list(stored("a", "xy"), []call{rename("a", "b"), create("a"), write("a", 0, "z")})
	has(t, made(t, 10, moved...), "a:z b:xy 3 3")
	crashed(t, made(t, 10, moved...), "000", "a:xy 2 0")
	crashed(t, made(t, 10, moved...), "100", "b:xy 2 0")
	crashed(t, made(t, 10, moved...), "110", "a: b:xy 2 0")
	crashed(t, made(t, 10, moved...), "011", "a:z 1 0")
	crashed(t, made(t, 10, moved...), "001", "a:xy 2 0")
}

// P10.2: Write, at all places, of all short lengths.
func TestWrite(t *testing.T) {
	for at := range 5 {
		for n := range 7 {
			text := "uvwxyz"[:n]
			want := "0123"[:at] + text
			if len(want) < 4 {
				want += "0123"[len(want):]
			}
			d := made(t, 10, list(stored("a", "0123"), []call{write("a", at, text)})...)
			has(t, d, fmt.Sprint("a:", want, " ", len(want), " 1"))
			crashed(t, d, "", "a:0123 4 0")
			good(t, d, write("a", at, text))
			crashed(t, d, "1", fmt.Sprint("a:", want, " ", len(want), " 0"))
			good(t, d, sync("a"))
			crashed(t, d, "", fmt.Sprint("a:", want, " ", len(want), " 0"))
		}
	}
	fails(t, 10, stored("a", "0123"), write("a", -1, ""), api.ErrArg)
	fails(t, 10, stored("a", "0123"), write("a", 5, ""), api.ErrArg)
	fails(t, 10, stored("a", "0123"), write("a", 5, "x"), api.ErrArg)
	fails(t, 10, stored("a", "0123"), write("b", 0, ""), api.ErrNone)
	fails(t, 10, list(stored("a", "0123"), []call{remove("a")}), write("a", 0, ""), api.ErrNone)
	fails(t, 10, list(stored("a", "0123"), []call{rename("a", "b")}), write("a", 0, ""), api.ErrNone)
}

// P10.2: a Write of no bytes is a pending change as well.
func TestWriteNothing(t *testing.T) {
	d := New(0)
	good(t, d, create("a"), write("a", 0, ""))
	if e := d.Write("a", 0, nil); e != api.OK {
		t.Error(e)
	}
	has(t, d, "a: 0 3")
	// Kept without the write ahead of it, it extends the file up to its index.
	crashed(t, made(t, 10, create("a"), write("a", 0, "xy"), write("a", 2, "")), "101", "a:\x00\x00 2 0")
	crashed(t, made(t, 10, create("a"), write("a", 0, "xy"), write("a", 1, "")), "101", "a:\x00 1 0")
	crashed(t, made(t, 10, create("a"), write("a", 0, "xy"), write("a", 0, "")), "101", "a: 0 0")
}

// P10.2: just as much room as there is, and one byte more.
func TestRoom(t *testing.T) {
	two := []call{create("a"), create("b"), write("b", 0, "0123")}
	has(t, made(t, 10, list(two, []call{write("a", 0, "uvwxyz")})...), "a:uvwxyz b:0123 10 4")
	fails(t, 10, two, write("a", 0, "tuvwxyz"), api.ErrFull)
	has(t, made(t, 10, list(two, []call{write("b", 2, "uvwxyz!?")})...), "a: b:01uvwxyz!? 10 4")
	fails(t, 10, two, write("b", 2, "uvwxyz!?."), api.ErrFull)
	fails(t, 10, two, write("b", 4, "uvwxyz!"), api.ErrFull)
	full := list(two, []call{write("a", 0, "uvwxyz")})
	fails(t, 10, full, write("a", 6, "!"), api.ErrFull)
	fails(t, 10, full, write("a", 5, "!?"), api.ErrFull)
	has(t, made(t, 10, list(full, []call{write("a", 0, "UVWXYZ"), write("a", 6, ""), write("b", 3, "!")})...), "a:UVWXYZ b:012! 10 7")
	has(t, made(t, 10, list(full, []call{remove("b"), write("a", 6, "0123")})...), "a:uvwxyz0123 10 6")
	has(t, made(t, 10, list(full, []call{rename("b", "a"), write("a", 4, "uvwxyz")})...), "a:0123uvwxyz 10 6")
	fails(t, 10, list(full, []call{rename("b", "a")}), write("a", 4, "uvwxyz!"), api.ErrFull)
}

// P10.2: files that come back in a crash may use more than the room; then nothing grows, and the rest is as ever.
func TestMoreThanRoom(t *testing.T) {
	calls := list(stored("a", "012345"), []call{remove("a"), create("b"), write("b", 0, "0123456789"), sync("b")})
	d := made(t, 10, calls...)
	d.Crash(bits("01"))
	has(t, d, "a:012345 b:0123456789 16 0")
	for _, c := range []call{write("a", 6, "x"), write("a", 0, "0123456"), write("b", 10, "x")} {
		if e := c.on(d); e != api.ErrFull {
			t.Error(c, e)
		}
	}
	good(t, d, write("a", 3, "xyz"), write("b", 10, ""), remove("b"), write("a", 6, "6789"))
	has(t, d, "a:012xyz6789 10 4")
}

// P10.2: the errors of Write in their order.
func TestWriteOrder(t *testing.T) {
	for _, c := range []struct {
		call
		e api.Errno
	}{
		{write("b", -1, "01234567890"), api.ErrNone},
		{write("b", 7, "01234567890"), api.ErrNone},
		{write("a", -1, "01234567890"), api.ErrArg},
		{write("a", 3, "01234567890"), api.ErrArg},
		{write("a", 2, "01234567890"), api.ErrFull},
	} {
		fails(t, 10, stored("a", "xy"), c.call, c.e)
	}
}

// P10.2: Sync makes all writes to one file durable, and nothing else.
func TestSync(t *testing.T) {
	several := []call{create("a"), write("a", 0, "xyz"), create("b"), write("b", 0, "t"), write("a", 1, "uvw"), write("a", 0, "!"), sync("a")}
	has(t, made(t, 10, several...), "a:!uvw b:t 5 3")
	crashed(t, made(t, 10, several...), "", "0 0")
	crashed(t, made(t, 10, several...), "100", "a:!uvw 4 0")
	crashed(t, made(t, 10, several...), "110", "a:!uvw b: 4 0")
	crashed(t, made(t, 10, several...), "111", "a:!uvw b:t 5 0")
	crashed(t, made(t, 10, several...), "001", "0 0")
	has(t, made(t, 10, list(several, []call{sync("a"), sync("a")})...), "a:!uvw b:t 5 3")
	fails(t, 10, several, sync("c"), api.ErrNone)
	fails(t, 10, list(several, []call{remove("a")}), sync("a"), api.ErrNone)
	fails(t, 10, list(several, []call{rename("a", "c")}), sync("a"), api.ErrNone)
}

// P10.2: Sync of a file without writes, whose creation is still pending.
func TestSyncNothing(t *testing.T) {
	d := made(t, 10, create("a"), sync("a"))
	has(t, d, "a: 0 1")
	crashed(t, d, "0", "0 0")
	crashed(t, made(t, 10, create("a"), sync("a")), "1", "a: 0 0")
}

// P10.2: Sync of a file that was renamed, whose renaming stays pending.
func TestSyncRenamed(t *testing.T) {
	calls := list(stored("a", "x"), []call{write("a", 1, "y"), rename("a", "b"), write("b", 2, "z"), sync("b")})
	has(t, made(t, 10, calls...), "b:xyz 3 1")
	crashed(t, made(t, 10, calls...), "0", "a:xyz 3 0")
	crashed(t, made(t, 10, calls...), "1", "b:xyz 3 0")
}

// P10.2: Sync of a name that another file has taken over leaves the writes to the first one pending.
func TestSyncOther(t *testing.T) {
	calls := []call{create("a"), write("a", 0, "x"), rename("a", "b"), create("a"), write("a", 0, "yz"), sync("a")}
	has(t, made(t, 10, calls...), "a:yz b:x 3 4")
	crashed(t, made(t, 10, calls...), "1011", "a:yz b: 2 0")
	crashed(t, made(t, 10, calls...), "1111", "a:yz b:x 3 0")
	crashed(t, made(t, 10, list(calls, []call{sync("b")})...), "111", "a:yz b:x 3 0")
	crashed(t, made(t, 10, list(calls, []call{sync("b")})...), "101", "a:yz 2 0")
}

// P10.2: Rename to a new name.
func TestRename(t *testing.T) {
	calls := list(stored("a", "xy"), []call{rename("a", "b")})
	has(t, made(t, 10, calls...), "b:xy 2 1")
	crashed(t, made(t, 10, calls...), "0", "a:xy 2 0")
	crashed(t, made(t, 10, calls...), "1", "b:xy 2 0")
	crashed(t, made(t, 10, list(calls, []call{syncNames()})...), "", "b:xy 2 0")
	fails(t, 10, calls, rename("a", "c"), api.ErrNone)
	fails(t, 10, calls, rename("a", ""), api.ErrNone)
	fails(t, 10, calls, rename("b", ""), api.ErrArg)
}

// P10.2: Rename to itself changes nothing, but is pending.
func TestRenameItself(t *testing.T) {
	calls := list(stored("a", "xy"), []call{rename("a", "a")})
	has(t, made(t, 10, calls...), "a:xy 2 1")
	for _, keep := range keeps(1) {
		crashed(t, made(t, 10, calls...), keep, "a:xy 2 0")
	}
	has(t, made(t, 10, list(calls, []call{syncNames()})...), "a:xy 2 0")
	// Of a name that isn't durable, it makes none.
	crashed(t, made(t, 10, create("a"), rename("a", "a")), "01", "0 0")
	crashed(t, made(t, 10, create("a"), rename("a", "a")), "11", "a: 0 0")
}

// P10.2: Rename to a name that is there; the file that had it is under no name.
func TestRenameOver(t *testing.T) {
	calls := list(stored("a", "xy"), stored("b", "z"), []call{rename("a", "b")})
	has(t, made(t, 10, calls...), "b:xy 2 1")
	crashed(t, made(t, 10, calls...), "0", "a:xy b:z 3 0")
	crashed(t, made(t, 10, calls...), "1", "b:xy 2 0")
	has(t, made(t, 10, list(calls, []call{remove("b")})...), "0 2")
	has(t, made(t, 10, list(calls, []call{rename("b", "a")})...), "a:xy 2 2")
	crashed(t, made(t, 10, list(calls, []call{rename("b", "a")})...), "01", "a:z 1 0")
	crashed(t, made(t, 10, list(calls, []call{create("a")})...), "01", "a: b:z 1 0")
}

// P10.2: Rename back again.
func TestRenameBack(t *testing.T) {
	calls := list(stored("a", "xy"), []call{rename("a", "b"), rename("b", "a")})
	has(t, made(t, 10, calls...), "a:xy 2 2")
	crashed(t, made(t, 10, calls...), "00", "a:xy 2 0")
	crashed(t, made(t, 10, calls...), "10", "b:xy 2 0")
	crashed(t, made(t, 10, calls...), "01", "a:xy 2 0")
	crashed(t, made(t, 10, calls...), "11", "a:xy 2 0")
}

// P10.2: Remove.
func TestRemove(t *testing.T) {
	calls := list(stored("a", "xy"), stored("b", "z"), []call{remove("a")})
	has(t, made(t, 10, calls...), "b:z 1 1")
	crashed(t, made(t, 10, calls...), "0", "a:xy b:z 3 0")
	crashed(t, made(t, 10, calls...), "1", "b:z 1 0")
	crashed(t, made(t, 10, list(calls, []call{syncNames()})...), "", "b:z 1 0")
	fails(t, 10, calls, remove("a"), api.ErrNone)
	fails(t, 10, list(stored("a", "x"), []call{rename("a", "b")}), remove("a"), api.ErrNone)
	fails(t, 10, nil, remove(""), api.ErrNone)
	crashed(t, made(t, 10, create("a"), remove("a")), "01", "0 0")
	crashed(t, made(t, 10, create("a"), remove("a")), "10", "a: 0 0")
}

// P10.2: SyncNames makes directory changes durable, in order, and no writes.
func TestSyncNames(t *testing.T) {
	has(t, made(t, 10, syncNames(), syncNames()), "0 0")
	has(t, made(t, 10, create("a"), write("a", 0, "x"), syncNames()), "a:x 1 1")
	for _, c := range []struct {
		calls []call
		want  string // behind a crash without keep
	}{
		{[]call{create("a")}, "a: 0 0"},
		{[]call{create("a"), write("a", 0, "x")}, "a: 0 0"},
		{[]call{create("a"), create("b"), remove("a")}, "b: 0 0"},
		{[]call{create("a"), remove("a"), create("a")}, "a: 0 0"},
		{[]call{create("a"), rename("a", "b"), create("a")}, "a: b: 0 0"},
		{[]call{create("a"), create("b"), rename("a", "b"), rename("b", "c")}, "c: 0 0"},
		{[]call{create("a"), write("a", 0, "x"), sync("a"), create("b"), rename("a", "c"), rename("b", "a"), rename("c", "b")}, "a: b:x 1 0"},
		{[]call{create("a"), write("a", 0, "x"), sync("a"), rename("a", "b"), remove("b"), create("b")}, "b: 0 0"},
		{list(stored("a", "x"), stored("b", "y"), []call{remove("a"), rename("b", "a")}), "a:y 1 0"},
		{list(stored("a", "x"), stored("b", "y"), []call{rename("b", "a"), remove("a")}), "0 0"},
		{list(stored("a", "x"), stored("b", "y"), []call{rename("b", "a"), create("b")}), "a:y b: 1 0"},
		{list(stored("a", "x"), []call{syncNames()}), "a:x 1 0"},
	} {
		crashed(t, made(t, 10, list(c.calls, []call{syncNames()})...), "", c.want)
	}
}

// P10.2: writes to a file whose name is removed, or taken over by another one, stay pending.
func TestWritesWithoutName(t *testing.T) {
	gone := list(stored("a", "x"), []call{write("a", 1, "y"), remove("a")})
	has(t, made(t, 10, gone...), "0 2")
	crashed(t, made(t, 10, gone...), "00", "a:x 1 0")
	crashed(t, made(t, 10, gone...), "10", "a:xy 2 0")
	crashed(t, made(t, 10, gone...), "01", "0 0")
	has(t, made(t, 10, list(gone, []call{syncNames()})...), "0 1")
	crashed(t, made(t, 10, list(gone, []call{syncNames()})...), "1", "0 0")
	again := list(gone, []call{create("a"), write("a", 0, "z"), sync("a")})
	has(t, made(t, 10, again...), "a:z 1 3")
	crashed(t, made(t, 10, again...), "100", "a:xy 2 0")
	crashed(t, made(t, 10, again...), "111", "a:z 1 0")
	over := list(stored("a", "x"), stored("b", "z"), []call{write("a", 1, "y"), rename("b", "a"), sync("a")})
	has(t, made(t, 10, over...), "a:z 1 2")
	crashed(t, made(t, 10, over...), "10", "a:xy b:z 3 0")
	crashed(t, made(t, 10, over...), "11", "a:z 1 0")
}

// P10.3: Read and its errors.
func TestRead(t *testing.T) {
	d := made(t, 10, create("a"), write("a", 0, "xy"), create("b"))
	for _, c := range []struct {
		name, want string
		e          api.Errno
	}{{"a", "xy", api.OK}, {"b", "", api.OK}, {"c", "", api.ErrNone}, {"", "", api.ErrNone}} {
		if b, e := d.Read(c.name); string(b) != c.want || e != c.e {
			t.Errorf("Read of %q: %q, %d", c.name, b, e)
		}
	}
	d.Cut(1)
	if b, e := d.Read("a"); string(b) != "xy" || e != api.OK || d.Off() {
		t.Errorf("Read is counted: %q, %d", b, e)
	}
	d.Sync("a")
	for _, name := range []string{"a", "b", "c", ""} {
		if b, e := d.Read(name); b != nil || e != api.ErrPower {
			t.Errorf("Read of %q without power: %q, %d", name, b, e)
		}
	}
}

// P10.3: what Read returns is in new memory.
func TestReadMemory(t *testing.T) {
	d := made(t, 10, list(stored("a", "xyz"), []call{write("a", 0, "u")})...)
	b, _ := d.Read("a")
	other, _ := d.Read("a")
	b[0], b[2] = '!', '!'
	_ = append(b[:1], "????"...)
	if string(other) != "uyz" {
		t.Errorf("%q", other)
	}
	has(t, d, "a:uyz 3 1")
	d.Crash(nil)
	b, _ = d.Read("a")
	b[1] = '!'
	has(t, d, "a:xyz 3 0")
	crashed(t, d, "", "a:xyz 3 0")
}

// P10.2: what is handed to Write is not kept, in either state.
func TestWriteMemory(t *testing.T) {
	for _, synced := range []bool{false, true} {
		d := made(t, 10, create("a"), syncNames())
		b := []byte("xyz")
		if e := d.Write("a", 0, b); e != api.OK {
			t.Fatal(e)
		}
		b[0] = '!'
		has(t, d, "a:xyz 3 1")
		if synced {
			good(t, d, sync("a"))
			b[1] = '!'
		}
		d.Crash(bits("1"))
		b[2] = '!'
		has(t, d, "a:xyz 3 0")
		crashed(t, d, "", "a:xyz 3 0")
	}
}

// P10.2: what is handed to Write is not changed, nor what lies behind it.
func TestWriteArgument(t *testing.T) {
	whole := []byte("xyztuv")
	d := made(t, 20, create("a"), syncNames())
	if e := d.Write("a", 0, whole[:3]); e != api.OK {
		t.Fatal(e)
	}
	good(t, d, write("a", 3, "!!!"), write("a", 0, "???"), sync("a"), write("a", 1, "--"))
	d.Crash(bits("1"))
	has(t, d, "a:?--!!! 6 0")
	if string(whole) != "xyztuv" {
		t.Errorf("%q", whole)
	}
}

// P10.2, P10.4: the two states of a file share no memory, behind Sync and behind Crash.
func TestStatesMemory(t *testing.T) {
	d := made(t, 20, list(stored("a", "xyz"), []call{write("a", 1, "!"), write("a", 3, "tuv")})...)
	crashed(t, d, "", "a:xyz 3 0")
	good(t, d, write("a", 0, "!!!"))
	crashed(t, d, "", "a:xyz 3 0")
	good(t, d, write("a", 3, "tuv"), sync("a"), write("a", 3, "TUVW"), write("a", 0, "?"))
	has(t, d, "a:?yzTUVW 7 2")
	crashed(t, d, "", "a:xyztuv 6 0")
}

// P10.3: Names in increasing order of their bytes, in new memory.
func TestNames(t *testing.T) {
	l := []string{"b", "a", "new.a", "ab", "B", "\xff", "é", "\x00", " ", "a\x00", "b0", "b10", "b9", "core"}
	d := New(0)
	for i, name := range l {
		good(t, d, create(name))
		want := slices.Sorted(slices.Values(l[:i+1]))
		if got := d.Names(); !slices.Equal(got, want) {
			t.Fatalf("%q; want %q", got, want)
		}
	}
	got := d.Names()
	clear(got)
	if again := d.Names(); again[0] != "\x00" || len(again) != len(l) {
		t.Errorf("%q", again)
	}
	d.Cut(1)
	d.SyncNames()
	if got := d.Names(); !d.Off() || len(got) != len(l) || !slices.IsSorted(got) {
		t.Errorf("without power: %q", got)
	}
}

// P10.3: Used with files that grow, are removed and replaced.
func TestUsed(t *testing.T) {
	d := New(100)
	for i, c := range []struct {
		call
		want int
	}{
		{create("a"), 0},
		{write("a", 0, "xyz"), 3},
		{write("a", 2, "xyz"), 5},
		{write("a", 0, "xyz"), 5},
		{create("b"), 5},
		{write("b", 0, "0123456"), 12},
		{rename("a", "a"), 12},
		{rename("a", "b"), 5},
		{create("a"), 5},
		{write("a", 0, "xy"), 7},
		{remove("b"), 2},
		{sync("a"), 2},
		{syncNames(), 2},
		{remove("a"), 0},
	} {
		good(t, d, c.call)
		if n := d.Used(); n != c.want {
			t.Errorf("behind call %d, %v: %d; want %d", i, c.call, n, c.want)
		}
	}
	d.Crash(nil)
	if n := d.Used(); n != 2 {
		t.Error(n)
	}
}

// P10.3: Pending behind each of the six calls, with and without power, and behind Crash.
func TestPending(t *testing.T) {
	d := New(100)
	for i, c := range []struct {
		call
		want int
	}{
		{syncNames(), 0},
		{create("a"), 1},
		{write("a", 0, "x"), 2},
		{write("a", 0, "y"), 3},
		{sync("a"), 1},
		{rename("a", "b"), 2},
		{write("b", 1, "z"), 3},
		{create("a"), 4},
		{write("a", 0, "t"), 5},
		{remove("a"), 6},
		{sync("b"), 5},
		{syncNames(), 1},
		{remove("b"), 2},
	} {
		good(t, d, c.call)
		if n := d.Pending(); n != c.want {
			t.Errorf("behind call %d, %v: %d; want %d", i, c.call, n, c.want)
		}
	}
	d.Cut(1)
	d.SyncNames()
	if n := d.Pending(); n != 2 || !d.Off() {
		t.Error(n)
	}
	d.Crash(nil)
	if n := d.Pending(); n != 0 {
		t.Error(n)
	}
}

// P10.3: each call on a nil Disk.
func TestNil(t *testing.T) {
	var d *Disk
	for _, c := range slices.Concat(six, []call{create(""), write("", -1, ""), rename("", "")}) {
		if e := c.on(d); e != api.ErrArg {
			t.Errorf("%v: %d", c, e)
		}
	}
	for _, name := range []string{"", "a"} {
		if b, e := d.Read(name); b != nil || e != api.ErrArg {
			t.Error(b, e)
		}
	}
	d.Cut(1)
	if e := d.SyncNames(); e != api.ErrArg {
		t.Error(e)
	}
	d.Crash(nil)
	d.Crash([]bool{true})
	if d.Names() != nil || d.Used() != 0 || d.Pending() != 0 || d.Off() {
		t.Error(d.Names(), d.Used(), d.Pending(), d.Off())
	}
}

// A Disk that New did not make is empty and has no room; no call panics.
func TestZeroDisk(t *testing.T) {
	for _, c := range []call{write("a", 0, ""), sync("a"), rename("a", "b"), remove("a")} {
		if e := c.on(&Disk{}); e != api.ErrNone {
			t.Error(c, e)
		}
	}
	d := &Disk{}
	has(t, d, "0 0")
	good(t, d, syncNames(), create("a"), rename("a", "b"))
	if e := d.Write("b", 0, []byte("x")); e != api.ErrFull {
		t.Error(e)
	}
	crashed(t, d, "11", "b: 0 0")
	d = &Disk{}
	d.Crash([]bool{true})
	good(t, d, create("a"))
	crashed(t, d, "0", "0 0")
}

// P10.4: the loss comes at the operation that was planned, of operations alone, and there are none behind it.
func TestCut(t *testing.T) {
	for steps := 1; steps < 12; steps++ {
		d := made(t, 100, ready...)
		d.Cut(steps)
		for i := 1; i < steps; i++ {
			for _, c := range wrongs[:3] {
				if e := c.on(d); e != c.e {
					t.Fatal(c, e)
				}
			}
			d.Read("a")
			d.Names()
			d.Used()
			d.Pending()
			if d.Off() {
				t.Fatal("off ahead of the loss")
			}
			good(t, d, [...]call{sync("a"), write("a", 0, "x"), syncNames(), rename("a", "a")}[i%4])
		}
		n := d.Pending()
		if e := d.Write("a", 0, []byte("!")); e != api.ErrPower || !d.Off() || d.Pending() != n {
			t.Fatal(steps, e, d.Off())
		}
		if e := d.SyncNames(); e != api.ErrPower || !d.Off() {
			t.Fatal(steps, e)
		}
		d.Crash(nil)
		good(t, d, slices.Repeat([]call{sync("a")}, 15)...)
	}
}

// P10.4: Cut with less than 1 plans no loss; with very many it plans one that is far away.
func TestCutNone(t *testing.T) {
	for _, steps := range []int{0, -1, -5, math.MinInt, math.MaxInt, 1000} {
		d := New(100)
		d.Cut(steps)
		good(t, d, create("a"))
		good(t, d, slices.Repeat([]call{write("a", 0, "x"), sync("a"), syncNames()}, 20)...)
		has(t, d, "a:x 1 0")
	}
}

// P10.4: a second Cut ahead of the loss takes the place of the first.
func TestCutAgain(t *testing.T) {
	for _, first := range []int{-1, 0, 2, 3, 10} {
		for _, second := range []int{-1, 0, 1, 2, 3, 10} {
			d := made(t, 10, create("a"))
			d.Cut(first)
			good(t, d, sync("a"))
			d.Cut(second)
			for i := 1; i < 15; i++ {
				want := api.OK
				if second > 0 && i >= second {
					want = api.ErrPower
				}
				if e := d.Sync("a"); e != want || d.Off() != (want != api.OK) {
					t.Fatal(first, second, i, e, d.Off())
				}
			}
		}
	}
}

// P10.4: Cut without power has no effect: neither then nor behind the crash.
func TestCutOff(t *testing.T) {
	for _, steps := range []int{-1, 0, 1, 2} {
		d := made(t, 10, create("a"))
		d.Cut(1)
		d.SyncNames()
		d.Cut(steps)
		if e := d.SyncNames(); e != api.ErrPower || !d.Off() {
			t.Fatal(steps, e)
		}
		d.Crash(bits("1"))
		good(t, d, slices.Repeat([]call{sync("a"), syncNames()}, 3)...)
	}
}

// P10.4: a planned loss is gone behind Crash.
func TestCrashUnplans(t *testing.T) {
	for steps := 1; steps < 4; steps++ {
		d := made(t, 10, stored("a", "x")...)
		d.Cut(steps)
		d.Crash(nil)
		good(t, d, slices.Repeat([]call{sync("a"), syncNames()}, 3)...)
		has(t, d, "a:x 1 0")
	}
}

// P10.4: Off ahead of the loss, behind it, and behind Crash; Crash with power and without.
func TestOff(t *testing.T) {
	for _, cut := range []bool{false, true} {
		d := made(t, 10, create("a"), write("a", 0, "x"))
		if d.Off() {
			t.Fatal("off")
		}
		if cut {
			d.Cut(1)
			if d.Off() {
				t.Fatal("off ahead of the loss")
			}
			d.Sync("a")
			if !d.Off() {
				t.Fatal("on behind the loss")
			}
		}
		d.Crash(bits("11"))
		if d.Off() {
			t.Fatal("off behind the crash")
		}
		has(t, d, "a:x 1 0")
	}
}

// P10.4: each keep of three changes, also shorter and longer ones; keep is as it was.
func TestCrashKeep(t *testing.T) {
	calls := list(stored("a", "xyz"), []call{write("a", 1, "!"), rename("a", "b"), create("c")})
	for keep, want := range map[string]string{
		"": "a:xyz 3 0", "0": "a:xyz 3 0", "00": "a:xyz 3 0", "000": "a:xyz 3 0", "0001": "a:xyz 3 0", "000111": "a:xyz 3 0",
		"1": "a:x!z 3 0", "10": "a:x!z 3 0", "100": "a:x!z 3 0", "1001": "a:x!z 3 0",
		"01": "b:xyz 3 0", "010": "b:xyz 3 0",
		"001": "a:xyz c: 3 0", "0011": "a:xyz c: 3 0",
		"11": "b:x!z 3 0", "110": "b:x!z 3 0", "101": "a:x!z c: 3 0", "011": "b:xyz c: 3 0",
		"111": "b:x!z c: 3 0", "1111": "b:x!z c: 3 0", "11111111": "b:x!z c: 3 0",
	} {
		crashed(t, made(t, 10, calls...), keep, want)
		l := bits(keep)
		made(t, 10, calls...).Crash(l)
		if !slices.Equal(l, bits(keep)) {
			t.Errorf("Crash changed its argument %s to %v", keep, l)
		}
	}
	d := made(t, 10, calls...)
	d.Crash(nil)
	has(t, d, "a:xyz 3 0")
}

// P10.4: changes that are kept without those they lean on.
func TestCrashWithout(t *testing.T) {
	written := []call{create("a"), write("a", 0, "xy"), write("a", 2, "z")}
	crashed(t, made(t, 10, written...), "010", "0 0")
	crashed(t, made(t, 10, written...), "011", "0 0")
	crashed(t, made(t, 10, written...), "100", "a: 0 0")
	crashed(t, made(t, 10, written...), "110", "a:xy 2 0")
	crashed(t, made(t, 10, written...), "101", "a:\x00\x00z 3 0")
	renamed := []call{create("a"), rename("a", "b"), rename("b", "c")}
	crashed(t, made(t, 10, renamed...), "010", "0 0")
	crashed(t, made(t, 10, renamed...), "011", "0 0")
	crashed(t, made(t, 10, renamed...), "101", "a: 0 0")
	crashed(t, made(t, 10, renamed...), "110", "b: 0 0")
	// A renaming that is kept takes what the durable directory has under its name.
	swapped := list(stored("a", "x"), stored("b", "y"), []call{remove("a"), rename("b", "a"), rename("a", "c")})
	crashed(t, made(t, 10, swapped...), "001", "b:y c:x 2 0")
	crashed(t, made(t, 10, swapped...), "011", "c:y 1 0")
	crashed(t, made(t, 10, swapped...), "101", "b:y 1 0")
	crashed(t, made(t, 10, list(stored("a", "x"), []call{rename("a", "b"), remove("b")})...), "01", "a:x 1 0")
}

// P10.4: a write that is kept behind one that isn't, over the end of what is durable.
func TestCrashGap(t *testing.T) {
	calls := list(stored("a", "xy"), []call{write("a", 2, "tuv"), write("a", 5, "w")})
	crashed(t, made(t, 10, calls...), "01", "a:xy\x00\x00\x00w 6 0")
	crashed(t, made(t, 10, calls...), "10", "a:xytuv 5 0")
	// A change that was lost stays lost, also in memory that the file once had.
	d := made(t, 20, list(stored("a", "xy"), []call{write("a", 2, "tuvwxyz"), write("a", 9, "!")})...)
	d.Crash(nil)
	good(t, d, write("a", 2, "TUV"), write("a", 5, "W"), sync("a"))
	crashed(t, d, "", "a:xyTUVW 6 0")
}

// P10.4: a file that is under no name behind a crash is gone for good.
func TestCrashGone(t *testing.T) {
	d := made(t, 10, create("a"), write("a", 0, "xy"), sync("a"))
	d.Crash(nil)
	has(t, d, "0 0")
	good(t, d, create("a"), syncNames())
	crashed(t, d, "", "a: 0 0")
	d = made(t, 10, list(stored("a", "xy"), []call{remove("a"), syncNames(), create("a")})...)
	crashed(t, d, "1", "a: 0 0")
}

// P10.4: crashes one behind the other, with work between them.
func TestCrashes(t *testing.T) {
	d := made(t, 20, stored("a", "x")...)
	want := "x"
	for i := range 10 {
		good(t, d, write("a", i+1, "y"), create("b"), write("b", 0, "z"))
		if i%2 == 0 {
			good(t, d, sync("a"))
			d.Crash(bits("0"))
		} else {
			d.Crash(bits("1"))
		}
		want += "y"
		has(t, d, fmt.Sprint("a:", want, " ", len(want), " 0"))
	}
}
