package closure

import (
	"math/rand"
	"reflect"
	"slices"
	"strings"
	"testing"

	"dormouse/api"
	"dormouse/head"
	"dormouse/image"
)

// plain is what a file is, for a reckoning by the words of the chapter.
type plain struct {
	name   string
	prog   bool
	err    api.Errno
	needed []string
}

// plainOrder are the names of the list, and the error.
func plainOrder(root string, files []plain) ([]string, api.Errno) {
	list, done := []string{root}, 0
	needs := map[string][]string{}
	for done < len(list) {
		name := list[done]
		k := slices.IndexFunc(files, func(f plain) bool { return f.name == name })
		if k < 0 {
			return nil, api.ErrMissing
		}
		f := files[k]
		if f.err != api.OK {
			return nil, f.err
		}
		if f.prog != (done == 0) {
			return nil, api.ErrForm
		}
		for _, n := range f.needed {
			if slices.Index(list, n) < 0 {
				list = append(list, n)
				if len(list) > 8 {
					return nil, api.ErrSize
				}
			}
		}
		needs[name] = f.needed
		done++
	}
	for _, name := range list {
		if reaches(needs, name, name, len(list)) {
			return nil, api.ErrCycle
		}
	}
	return list, api.OK
}

// reaches tells whether one goes from a unit to another in 1 to so many steps.
func reaches(needs map[string][]string, from, to string, steps int) bool {
	at := map[string]bool{from: true}
	for range steps {
		next := map[string]bool{}
		for name := range at {
			for _, n := range needs[name] {
				next[n] = true
			}
		}
		if next[to] {
			return true
		}
		at = next
	}
	return false
}

// made is the file of a plain one.
func made(t *testing.T, f plain) api.File {
	t.Helper()
	kind := head.Lib
	if f.prog {
		kind = head.Exe
	}
	x := file(t, kind, f.name, f.needed...)
	switch f.err {
	case api.ErrRange:
		x.Bytes = x.Bytes[:100]
	case api.ErrForm:
		x.Bytes[4] = 1
	}
	return x
}

// check holds Order against the reckoning, and against what follows of the promise.
func check(t *testing.T, root string, l []plain) (api.Errno, int) {
	t.Helper()
	var files []api.File
	for _, f := range l {
		files = append(files, made(t, f))
	}
	want, wantErr := plainOrder(root, l)
	units, e := Order(root, files)
	if e != wantErr || names(units) != strings.Join(want, " ") || (e != api.OK && units != nil) {
		t.Fatalf("%q of %+v: %q %d, not %q %d", root, l, names(units), e, want, wantErr)
	}
	again, e2 := Order(root, files)
	if e2 != e || !reflect.DeepEqual(again, units) {
		t.Fatalf("%q of %+v: not the same again", root, l)
	}
	follows(t, root, files, units)
	return e, len(units)
}

// follows tells what P15.2 says: each name once, each unit but the first needed by one ahead of it, and all that is needed there.
func follows(t *testing.T, root string, files []api.File, units []Unit) {
	t.Helper()
	place := map[string]int{}
	for k, u := range units {
		if _, there := place[u.Name]; there {
			t.Fatalf("%q twice", u.Name)
		}
		place[u.Name] = k
		ahead := slices.ContainsFunc(units[:k], func(v Unit) bool { return slices.Contains(v.Image.Needed, u.Name) })
		if ahead != (k > 0) || (k == 0 && u.Name != root) {
			t.Fatalf("%q is not needed ahead", u.Name)
		}
		f := files[slices.IndexFunc(files, func(f api.File) bool { return f.Name == u.Name })]
		if m, _ := image.Parse(f.Bytes); !reflect.DeepEqual(m, u.Image) {
			t.Fatalf("%q has another image", u.Name)
		}
	}
	for _, u := range units {
		for _, n := range u.Image.Needed {
			if _, there := place[n]; !there {
				t.Fatalf("%q is not contained", n)
			}
		}
	}
}

// P15.1, P15.2: all graphs of three files, the root with each of its kinds.
func TestAllOfThree(t *testing.T) {
	all := []string{"a", "b", "c"}
	for bits := range 1 << 9 {
		l := []plain{{name: "a", prog: true}, {name: "b"}, {name: "c"}}
		for k := range l {
			for n := range all {
				if bits>>(3*k+n)&1 == 1 {
					l[k].needed = append(l[k].needed, all[n])
				}
			}
		}
		check(t, "a", l)
		check(t, "b", l)
		slices.Reverse(l)
		check(t, "a", l)
	}
}

// stirredFiles are up to 9 files, few of which are wrong; forward: they need those behind them alone, so that there is no cycle.
func stirredFiles(r *rand.Rand) []plain {
	n, forward := 1+r.Intn(9), r.Intn(3) > 0
	some := 1 + r.Intn(5)
	l := make([]plain, n)
	for k := range l {
		l[k].name = string(rune('a' + k))
		l[k].prog = (k == 0) != (r.Intn(60) == 0)
		switch r.Intn(30) {
		case 0:
			l[k].err = api.ErrRange
		case 1:
			l[k].err = api.ErrForm
		}
		for range r.Intn(some + 1) {
			to := r.Intn(n)
			if forward {
				to = k + 1 + r.Intn(n-k)
			}
			// With forward it may be one behind the last, which is missing.
			if to < n || r.Intn(8) == 0 {
				l[k].needed = append(l[k].needed, string(rune('a'+to)))
			}
		}
	}
	r.Shuffle(n, func(i, j int) { l[i], l[j] = l[j], l[i] })
	return l
}

// P15.1, P15.2: many graphs of up to 9 files, some of which are of one name, missing or wrong.
func TestStirred(t *testing.T) {
	r := rand.New(rand.NewSource(15))
	seen := map[api.Errno]int{}
	sizes := map[int]int{}
	for range 15000 {
		l := stirredFiles(r)
		if r.Intn(10) == 0 {
			l = append(l, l[r.Intn(len(l))])
			l[len(l)-1].needed = []string{"a"}
		}
		root := "a"
		if r.Intn(40) == 0 {
			root = string(rune('a' + r.Intn(10)))
		}
		e, n := check(t, root, l)
		seen[e]++
		sizes[n]++
	}
	for _, e := range []api.Errno{api.OK, api.ErrRange, api.ErrForm, api.ErrSize, api.ErrCycle, api.ErrMissing} {
		if seen[e] < 20 {
			t.Errorf("the error %d came %d times", e, seen[e])
		}
	}
	for n := range 9 {
		if sizes[n] < 5 {
			t.Errorf("%d units came %d times", n, sizes[n])
		}
	}
}
