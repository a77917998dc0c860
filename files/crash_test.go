package files

import (
	"fmt"
	"maps"
	"math/rand"
	"testing"

	"dormouse/api"
	"dormouse/disk"
)

// content is what Load returns of a file.
type content struct {
	bytes string
	e     api.Errno
}

// loaded is the content of a file.
func loaded(d *disk.Disk, name string) content {
	b, e := Load(d, name)
	return content{string(b), e}
}

// besides is what all files have but one and its temporary file.
func besides(d *disk.Disk, name string) string {
	var l []string
	for _, n := range d.Names() {
		if n != name && n != "new."+name {
			b, e := d.Read(n)
			l = append(l, fmt.Sprintf("%q: %q %d", n, b, e))
		}
	}
	return fmt.Sprint(l)
}

// around are files that have nothing to do with a.
var around = list(stored("b", "01"), stored("aa", text(70)), stored("new", "2"), stored("new.b", "34"), stored("new.", "5"), stored("newa", ""))

// befores are disks on which a is there or not, and a temporary file of it too, without pending changes.
var befores = [][]step{
	nil,
	stored("a", ""),
	stored("a", other(1)),
	stored("a", other(100)),
	stored("a", other(300)),
	stored("new.a", other(90)),
	list(stored("a", other(100)), stored("new.a", "")),
	list(stored("a", other(100)), stored("new.a", other(90)[1:])),
	list(stored("a", other(100)), stored("new.a", other(300)[1:])),
}

// P11.3: wherever the power goes, and whatever is kept, a has the old bytes or the new ones; all other files are as they were.
func TestAllOrNothing(t *testing.T) {
	for _, before := range befores {
		for _, c := range sizes {
			if c.n == 200 {
				continue
			}
			ready := list(around, before)
			old, fresh := loaded(made(t, 2000, ready), "a"), content{text(c.n), api.OK}
			rest := besides(made(t, 2000, ready), "a")
			for cut := 1; ; cut++ {
				run := func() (*disk.Disk, api.Errno) {
					d := made(t, 2000, ready)
					d.Cut(cut)
					return d, Replace(d, "a", []byte(text(c.n)))
				}
				d, e := run()
				for _, keep := range keeps(d.Pending()) {
					d, _ := run()
					d.Crash(keep)
					got := loaded(d, "a")
					if got != fresh && (e == api.OK || got != old) {
						t.Fatalf("%v, %d bytes, Cut(%d), Crash(%v): %v", before, c.n, cut, keep, got)
					}
					if s := besides(d, "a"); s != rest {
						t.Fatalf("%v, %d bytes, Cut(%d), Crash(%v): %s; want %s", before, c.n, cut, keep, s, rest)
					}
				}
				if e == api.OK {
					break
				}
				if e != api.ErrPower || cut > 20 {
					t.Fatal(cut, e)
				}
			}
		}
	}
}

// P11.3: both contents occur behind a loss of power, the old one whatever is kept ahead of the renaming.
func TestOldOrNew(t *testing.T) {
	for cut := 1; cut <= 6; cut++ {
		run := func() *disk.Disk {
			d := made(t, 1000, stored("a", other(100)))
			d.Cut(cut)
			if e := Replace(d, "a", []byte(text(100))); e != api.ErrPower {
				t.Fatal(e)
			}
			return d
		}
		seen := map[content]int{}
		for _, keep := range keeps(run().Pending()) {
			d := run()
			d.Crash(keep)
			seen[loaded(d, "a")]++
		}
		old, fresh := seen[content{other(100), api.OK}], seen[content{text(100), api.OK}]
		if len(seen) > 2 || old == 0 || cut < 6 && fresh != 0 || cut == 6 && fresh == 0 {
			t.Errorf("Cut(%d): %d times the old bytes, %d times the new ones, of %d", cut, old, fresh, len(seen))
		}
	}
}

// P11.3: behind a Replace that returned OK, any crash leaves the new bytes.
func TestReplacedStays(t *testing.T) {
	for _, before := range befores {
		for _, c := range sizes {
			d := made(t, 2000, list(around, before))
			if e := Replace(d, "a", []byte(text(c.n))); e != api.OK || d.Pending() != 0 {
				t.Fatal(e, d.Pending())
			}
			loads(t, d, "a", text(c.n))
			for _, keep := range [][]bool{nil, {true, true, true, true, true, true, true, true}, {false, true}} {
				d.Crash(keep)
				loads(t, d, "a", text(c.n))
			}
		}
	}
}

// P11.3: behind ErrFull a is as it was, ahead of a crash and behind any.
func TestFull(t *testing.T) {
	for _, before := range befores {
		ready := list(around, before)
		start := made(t, 2000, ready)
		left, _ := start.Read("new.a")
		old, rest := loaded(start, "a"), besides(start, "a")
		for _, more := range []int{0, 1, 63, 64, 65, 129} {
			room := start.Used() + more
			for _, over := range []int{1, 64, 65} {
				run := func() *disk.Disk {
					d := made(t, room, ready)
					if e := Replace(d, "a", []byte(text(more+len(left)+over))); e != api.ErrFull {
						t.Fatalf("%v, room %d: %d", before, room, e)
					}
					return d
				}
				d := run()
				if got, s := loaded(d, "a"), besides(d, "a"); got != old || s != rest {
					t.Fatalf("%v, room %d: %v, %s", before, room, got, s)
				}
				for _, keep := range keeps(d.Pending()) {
					d := run()
					d.Crash(keep)
					if got, s := loaded(d, "a"), besides(d, "a"); got != old || s != rest {
						t.Fatalf("%v, room %d, Crash(%v): %v, %s", before, room, keep, got, s)
					}
				}
			}
		}
	}
}

// P11.2, P11.3: wherever the power goes in a Tidy, and whatever is kept, all that is no temporary file is as it was.
func TestTidyCrash(t *testing.T) {
	ready := list(stored("a", text(100)), stored("new.a", "0"), stored("b", "1"), stored("new.b", "2"), stored("new.", "3"), stored("new", "4"))
	for cut := 1; cut < 6; cut++ {
		run := func() (*disk.Disk, api.Errno) {
			d := made(t, 1000, ready)
			d.Cut(cut)
			return d, Tidy(d)
		}
		d, e := run()
		if want := map[bool]api.Errno{true: api.ErrPower, false: api.OK}[cut < 5]; e != want {
			t.Fatal(cut, e)
		}
		for _, keep := range keeps(d.Pending()) {
			d, _ := run()
			d.Crash(keep)
			loads(t, d, "a", text(100))
			loads(t, d, "b", "1")
			loads(t, d, "new", "4")
			if e := Tidy(d); e != api.OK || len(d.Names()) != 3 {
				t.Fatal(e, d.Names())
			}
		}
	}
}

// P11.3: a second loss of power behind the first, with what the first has left.
func TestTwoLosses(t *testing.T) {
	first, second, old := text(70), other(65), other(130)
	run := func(cut int, keep []bool, again int) (*disk.Disk, content) {
		d := made(t, 2000, list(stored("a", old), stored("b", "1")))
		d.Cut(cut)
		if e := Replace(d, "a", []byte(first)); e != api.ErrPower {
			t.Fatal(e)
		}
		d.Crash(keep)
		before := loaded(d, "a")
		d.Cut(again)
		Replace(d, "a", []byte(second))
		return d, before
	}
	for cut := 1; cut <= 6; cut++ {
		for _, keep := range keeps(4) {
			for again := 1; again <= 9; again++ {
				d, _ := run(cut, keep, again)
				for _, then := range keeps(d.Pending()) {
					d, before := run(cut, keep, again)
					d.Crash(then)
					if got := loaded(d, "a"); got != before && got != (content{second, api.OK}) {
						t.Fatalf("Cut(%d), Crash(%v), Cut(%d), Crash(%v): %v", cut, keep, again, then, got)
					}
					loads(t, d, "b", "1")
				}
			}
		}
	}
}

// someBits are so many bools or some more or less, mostly of one kind.
func someBits(x *rand.Rand, n int) []bool {
	var l []bool
	for most := x.Intn(4); len(l) < max(n+x.Intn(5)-2, 0); {
		l = append(l, x.Intn(4) < most)
	}
	return l
}

// someText is some bytes, as many as fill some pieces or nearly so.
func someText(x *rand.Rand) string {
	b := make([]byte, max(64*x.Intn(4)+x.Intn(5)-2, 0))
	x.Read(b)
	return string(b)
}

// P11.3: long sequences of calls, with losses of power and crashes.
func TestLongSequences(t *testing.T) {
	for seed := range int64(2000) {
		x := rand.New(rand.NewSource(seed))
		d := disk.New(200 + x.Intn(800))
		want := map[string]string{}
		for range 30 {
			name := []string{"a", "b", "new", "aa"}[x.Intn(4)]
			b := someText(x)
			d.Cut(x.Intn(25))
			switch e := Replace(d, name, []byte(b)); e {
			case api.OK:
				want[name] = b
			case api.ErrFull:
				if x.Intn(2) == 0 {
					d.Crash(someBits(x, d.Pending()))
				}
			case api.ErrPower:
				d.Crash(someBits(x, d.Pending()))
				if got := loaded(d, name); got == (content{b, api.OK}) {
					want[name] = b
				}
			default:
				t.Fatal(seed, e)
			}
			if x.Intn(6) == 0 {
				if e := Tidy(d); e == api.ErrPower {
					d.Crash(someBits(x, d.Pending()))
				}
			}
			if d.Off() {
				t.Fatalf("%d: no power", seed)
			}
			if got := plain(d); !maps.Equal(got, want) {
				t.Fatalf("%d: %q; want %q", seed, got, want)
			}
		}
	}
}

// plain are all files that are not temporary.
func plain(d *disk.Disk) map[string]string {
	l := map[string]string{}
	for _, name := range d.Names() {
		if b, e := Load(d, name); e == api.OK {
			l[name] = string(b)
		}
	}
	return l
}
