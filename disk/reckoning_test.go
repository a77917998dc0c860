package disk

import (
	"fmt"
	"maps"
	"math/rand"
	"slices"
	"strings"
	"testing"

	"dormouse/api"
)

// reckoning is a disk by the chapter's words: a durable state, and a list of pending changes that make the current state of it.
type reckoning struct {
	room    int
	names   map[string]int // numbers of files
	bytes   map[int]string
	pending []pendingCall
	next    int // number of a file
	planned int // -1: no loss
	off     bool
}

// pendingCall is a pending change: the call that made it, and the number of the file that it writes to or makes.
type pendingCall struct {
	call
	file int
}

func newReckoning(room int) *reckoning {
	return &reckoning{room: max(room, 0), names: map[string]int{}, bytes: map[int]string{}, planned: -1}
}

// copied is the same reckoning in new memory.
func (r *reckoning) copied() *reckoning {
	out := *r
	out.names, out.bytes, out.pending = maps.Clone(r.names), maps.Clone(r.bytes), slices.Clone(r.pending)
	return &out
}

// applyTo applies a change to a state.
func (p pendingCall) applyTo(names map[string]int, bytes map[int]string) {
	switch p.kind {
	case "Create":
		names[p.name] = p.file
	case "Write":
		old := bytes[p.file]
		if len(old) < p.at {
			old += strings.Repeat("\x00", p.at-len(old))
		}
		end := min(p.at+len(p.call.bytes), len(old))
		bytes[p.file] = old[:p.at] + p.call.bytes + old[end:]
	case "Rename":
		if file, there := names[p.name]; there && p.name != p.to {
			names[p.to] = file
			delete(names, p.name)
		}
	case "Remove":
		delete(names, p.name)
	}
}

// now is the current state.
func (r *reckoning) now() (map[string]int, map[int]string) {
	names, bytes := maps.Clone(r.names), maps.Clone(r.bytes)
	for _, p := range r.pending {
		p.applyTo(names, bytes)
	}
	return names, bytes
}

// used is the length of the files of a state.
func used(names map[string]int, bytes map[int]string) int {
	n := 0
	for _, file := range names {
		n += len(bytes[file])
	}
	return n
}

// own is a call's own error.
func (r *reckoning) own(c call) api.Errno {
	names, bytes := r.now()
	file, there := names[c.name]
	length := len(bytes[file])
	switch {
	case c.kind == "SyncNames":
		return api.OK
	case c.kind == "Create" && c.name == "":
		return api.ErrArg
	case c.kind == "Create" && there:
		return api.ErrThere
	case c.kind == "Create":
		return api.OK
	case !there:
		return api.ErrNone
	case c.kind == "Rename" && c.to == "":
		return api.ErrArg
	case c.kind == "Write" && (c.at < 0 || c.at > length):
		return api.ErrArg
	case c.kind == "Write" && c.at+len(c.bytes) > length && used(names, bytes)-length+c.at+len(c.bytes) > r.room:
		return api.ErrFull
	}
	return api.OK
}

// on makes a call.
func (r *reckoning) on(c call) api.Errno {
	if r.off {
		return api.ErrPower
	}
	if e := r.own(c); e != api.OK {
		return e
	}
	if r.planned > 0 {
		r.planned--
	}
	if r.planned == 0 {
		r.off = true
		return api.ErrPower
	}
	names, _ := r.now()
	switch c.kind {
	case "Create":
		r.next++
		r.pending = append(r.pending, pendingCall{c, r.next})
	case "Sync":
		r.settle(func(p pendingCall) bool { return p.kind == "Write" && p.file == names[c.name] })
	case "SyncNames":
		r.settle(func(p pendingCall) bool { return p.kind != "Write" })
	default:
		r.pending = append(r.pending, pendingCall{c, names[c.name]})
	}
	return api.OK
}

// settle makes pending changes durable.
func (r *reckoning) settle(which func(p pendingCall) bool) {
	var rest []pendingCall
	for _, p := range r.pending {
		if which(p) {
			p.applyTo(r.names, r.bytes)
		} else {
			rest = append(rest, p)
		}
	}
	r.pending = rest
}

// cut plans a loss.
func (r *reckoning) cut(steps int) {
	if r.off {
		return
	}
	r.planned = -1
	if steps >= 1 {
		r.planned = steps
	}
}

// crash keeps some of the changes.
func (r *reckoning) crash(keep []bool) {
	for i, p := range r.pending {
		if i < len(keep) && keep[i] {
			p.applyTo(r.names, r.bytes)
		}
	}
	r.pending, r.planned, r.off = nil, -1, false
}

// told is all that a disk tells, also without power.
func told(d *Disk, names []string) string {
	var l []string
	for _, name := range names {
		b, e := d.Read(name)
		l = append(l, fmt.Sprintf("%q %q %d", name, b, e))
	}
	return fmt.Sprint(l, d.Names(), d.Used(), d.Pending(), d.Off())
}

// told is all that a disk should tell.
func (r *reckoning) told(asked []string) string {
	names, bytes := r.now()
	var l []string
	for _, name := range asked {
		file, there := names[name]
		switch {
		case r.off:
			l = append(l, fmt.Sprintf("%q %q %d", name, "", api.ErrPower))
		case !there:
			l = append(l, fmt.Sprintf("%q %q %d", name, "", api.ErrNone))
		default:
			l = append(l, fmt.Sprintf("%q %q %d", name, bytes[file], api.OK))
		}
	}
	return fmt.Sprint(l, slices.Sorted(maps.Keys(names)), used(names, bytes), len(r.pending), r.off)
}

// few are calls with two names, for all short sequences of them.
var few = []call{
	create("a"), create("b"), write("a", 0, "u"), write("a", 1, "vw"), write("b", 0, "xyz"), sync("a"), sync("b"),
	rename("a", "b"), rename("b", "a"), rename("a", "a"), remove("a"), remove("b"), syncNames(),
}

// begun are the sequences that the short ones are made behind.
var begun = [][]call{nil, list(stored("a", "01"), stored("b", "2"))}

// run makes calls on a disk and a reckoning, and fails the test if one of them differs.
func run(t *testing.T, d *Disk, r *reckoning, calls []call) {
	t.Helper()
	for i, c := range calls {
		if e, want := c.on(d), r.on(c); e != want {
			t.Fatalf("call %d of %v: %d; want %d", i, calls, e, want)
		}
	}
}

// sequences calls f with all sequences of so many of few.
func sequences(n int, f func(calls []call)) {
	if n == 0 {
		f(nil)
		return
	}
	sequences(n-1, func(calls []call) {
		for _, c := range few {
			f(append(slices.Clip(calls), c))
		}
	})
}

// P10.1 to P10.4: all short sequences of calls, with all that a crash may keep of them.
func TestShortSequences(t *testing.T) {
	asked := []string{"a", "b", "c"}
	for _, first := range begun {
		for n := range 5 {
			sequences(n, func(calls []call) {
				d, r := New(6), newReckoning(6)
				run(t, d, r, list(first, calls))
				if got, want := told(d, asked), r.told(asked); got != want {
					t.Fatalf("behind %v: %s; want %s", calls, got, want)
				}
				for _, keep := range keeps(len(r.pending)) {
					d, r := New(6), r.copied()
					for _, c := range list(first, calls) {
						c.on(d)
					}
					d.Crash(bits(keep))
					r.crash(bits(keep))
					if got, want := told(d, asked), r.told(asked); got != want {
						t.Fatalf("behind %v and a crash with %s: %s; want %s", calls, keep, got, want)
					}
				}
			})
		}
	}
}

// someName is a name, sometimes the empty one.
func someName(x *rand.Rand) string { return []string{"", "a", "a", "b", "b", "c", "new.a"}[x.Intn(7)] }

// someBits are so many elements or some more or less, mostly of one kind.
func someBits(x *rand.Rand, n int) []bool {
	var l []bool
	for most := x.Intn(4); len(l) < max(n+x.Intn(5)-2, 0); {
		l = append(l, x.Intn(4) < most)
	}
	return l
}

// someCall is one of the six calls.
func someCall(x *rand.Rand) call {
	switch x.Intn(14) {
	case 0, 1, 2:
		return create(someName(x))
	case 3, 4, 5, 6:
		return write(someName(x), x.Intn(10)-1, "stuvwxyz!"[:x.Intn(10)])
	case 7, 8:
		return sync(someName(x))
	case 9, 10, 11:
		return rename(someName(x), someName(x))
	case 12:
		return remove(someName(x))
	}
	return syncNames()
}

// P10.1 to P10.4: long sequences of calls, with losses of power and crashes.
func TestLongSequences(t *testing.T) {
	asked := []string{"", "a", "b", "c", "d", "new.a"}
	for seed := range int64(3000) {
		x := rand.New(rand.NewSource(seed))
		room := x.Intn(40) - 3
		d, r := New(room), newReckoning(room)
		var done []string
		for range 80 {
			switch x.Intn(20) {
			case 0:
				keep := someBits(x, len(r.pending))
				done = append(done, fmt.Sprint("Crash ", keep))
				d.Crash(keep)
				r.crash(keep)
			case 1:
				steps := x.Intn(12) - 1
				done = append(done, fmt.Sprint("Cut ", steps))
				d.Cut(steps)
				r.cut(steps)
			default:
				c := someCall(x)
				done = append(done, fmt.Sprint(c))
				if e, want := c.on(d), r.on(c); e != want {
					t.Fatalf("%d, room %d, %q: %d; want %d", seed, room, done, e, want)
				}
			}
			if got, want := told(d, asked), r.told(asked); got != want {
				t.Fatalf("%d, room %d, %q: %s; want %s", seed, room, done, got, want)
			}
		}
	}
}

// P10.5: what was synchronized, under a name that was, is still there after any crash if nothing was done to it since.
func TestSynchronizedStays(t *testing.T) {
	for seed := range int64(2000) {
		x := rand.New(rand.NewSource(seed))
		d := New(60)
		for range x.Intn(20) {
			someCall(x).on(d)
		}
		text := "0123456789"[:x.Intn(11)]
		good(t, d, create("kept"))
		if d.Write("kept", 0, []byte(text)) != api.OK {
			continue
		}
		good(t, d, [][]call{{sync("kept"), syncNames()}, {syncNames(), sync("kept")}}[x.Intn(2)]...)
		for range 5 {
			d.Cut(x.Intn(15))
			for range x.Intn(20) {
				someCall(x).on(d)
			}
			d.Crash(someBits(x, d.Pending()))
			if b, e := d.Read("kept"); string(b) != text || e != api.OK {
				t.Fatalf("%d: %q, %d; want %q", seed, b, e, text)
			}
		}
	}
}

// P10.5: as long as nothing is removed or renamed, Used never exceeds the room.
func TestRoomHolds(t *testing.T) {
	for seed := range int64(2000) {
		x := rand.New(rand.NewSource(seed))
		room := x.Intn(40)
		d := New(room)
		for range 80 {
			c := someCall(x)
			if c.kind != "Remove" && c.kind != "Rename" {
				c.on(d)
			}
			if x.Intn(10) == 0 {
				d.Cut(x.Intn(5))
			}
			if d.Off() || x.Intn(20) == 0 {
				d.Crash(someBits(x, d.Pending()))
			}
			if n := d.Used(); n > room {
				t.Fatalf("%d: %d; the room is %d", seed, n, room)
			}
		}
	}
}
