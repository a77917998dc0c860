package reloc

import (
	"math/rand"
	"reflect"
	"testing"

	"dormouse/api"
	"dormouse/closure"
	"dormouse/layout"
)

// found is a symbol of what units are made of: whose it is, and which.
type found struct{ unit, at int }

// plainResolve is a reckoning by the words of P17.1.
func plainResolve(l []plain, name string) (found, bool) {
	for unit, p := range l {
		for at, n := range p.syms {
			if n.name == name && n.defined && n.bind != 0 {
				return found{unit, at}, true
			}
		}
	}
	return found{}, false
}

// plainTarget is the target of a symbol of a unit, by the words of P17.2.
func plainTarget(l []plain, unit int, sym uint32) (found, bool, api.Errno) {
	own := l[unit].syms[sym-1]
	if own.defined && own.bind == 0 {
		return found{unit, int(sym) - 1}, true, api.OK
	}
	x, there := plainResolve(l, own.name)
	if !there && own.bind != 2 {
		return x, false, api.ErrSymbol
	}
	return x, there, api.OK
}

// plainWord is a reckoning of one relocation by the tables of P7.3 and P17.3.
func plainWord(l []plain, m []layout.Module, unit int, r api.Rela) (Word, api.Errno) {
	w := Word{Addr: m[unit].Base + r.Off}
	if r.Type == 8 {
		w.Value, w.Unit = m[unit].Base+uint64(r.Add), unit
		return w, api.OK
	}
	x, there, e := plainTarget(l, unit, r.Sym)
	if e != api.OK {
		return Word{}, e
	}
	n, of := entry{}, layout.Module{}
	if there {
		n, of = l[x.unit].syms[x.at], m[x.unit]
		if (n.kind == 6) != (r.Type >= 16) {
			return Word{}, api.ErrReloc
		}
	}
	w.Unit = -1
	switch r.Type {
	case 1, 6, 7:
		if there {
			w.Value, w.Unit = of.Base+n.value, x.unit
		}
	case 16:
		if there {
			w.Value = uint64(x.unit + 1)
		}
	case 17:
		w.Value = n.value
	case 18:
		w.Value = of.TlsOff + n.value
	}
	if r.Type == 1 || r.Type > 16 {
		w.Value += uint64(r.Add)
	}
	return w, api.OK
}

// plainWords is a reckoning of all of P17.2.
func plainWords(l []plain, m []layout.Module) ([]Word, api.Errno) {
	var out []Word
	for unit, p := range l {
		for _, r := range p.relas {
			if r.Type == 0 {
				continue
			}
			w, e := plainWord(l, m, unit, r)
			if e != api.OK {
				return nil, e
			}
			out = append(out, w)
		}
	}
	return out, api.OK
}

// stirredSyms are symbols of few names, so that many of them meet; those that begin with t are mostly of kind Tls.
func stirredSyms(r *rand.Rand, tls int64) []entry {
	list := []string{"f", "g", "ff", "", "t", "tt", "h"}
	var out []entry
	for range r.Intn(7) {
		n := entry{name: list[r.Intn(len(list))], bind: r.Intn(3), kind: r.Intn(3), defined: r.Intn(2) == 0}
		if (n.name == "t" || n.name == "tt") != (r.Intn(40) == 0) {
			n.kind = 6
		}
		if n.defined && n.kind == 6 && tls < 0 {
			n.defined = false
		}
		switch {
		case !n.defined:
			n.bind = 1 + min(r.Intn(4), 1)
		case n.kind == 6:
			n.value = uint64(r.Int63n(tls + 1))
		default:
			n.value = uint64(r.Int63n([]int64{1, 5000, api.Top + 1}[r.Intn(3)]))
		}
		out = append(out, n)
	}
	return out
}

// stirredRelas are relocations to such symbols, most of which fit by the names.
func stirredRelas(r *rand.Rand, syms []entry) []api.Rela {
	var out []api.Rela
	for range r.Intn(6) {
		x := api.Rela{Off: uint64(r.Intn(loaded - 7)), Type: uint32(8 * r.Intn(2)), Add: r.Int63() - r.Int63()}
		if len(syms) > 0 && r.Intn(4) > 0 {
			x.Sym = uint32(1 + r.Intn(len(syms)))
			name := syms[x.Sym-1].name
			x.Type = []uint32{1, 6, 7}[r.Intn(3)]
			if (name == "t" || name == "tt") != (r.Intn(60) == 0) {
				x.Type = uint32(16 + r.Intn(3))
			}
		}
		out = append(out, x)
	}
	return out
}

// stirred are units and what they are made of.
func stirred(t *testing.T, r *rand.Rand) ([]closure.Unit, []plain) {
	t.Helper()
	var l []plain
	for range 1 + r.Intn(4) {
		p := plain{tls: -1}
		if r.Intn(3) > 0 {
			p.tls = int64(r.Intn(40))
		}
		p.syms = stirredSyms(r, p.tls)
		p.relas = stirredRelas(r, p.syms)
		p.start = api.Page * uint64(r.Intn(4))
		for k := range p.relas {
			p.relas[k].Off += p.start
		}
		l = append(l, p)
	}
	return units(t, l...), l
}

// P17.1: stirred units, all names.
func TestStirredResolve(t *testing.T) {
	r := rand.New(rand.NewSource(1701))
	seen := map[bool]int{}
	for range 3000 {
		l, p := stirred(t, r)
		for _, name := range []string{"f", "g", "ff", "", "t", "tt", "h", "none"} {
			want, wantThere := plainResolve(p, name)
			x, there := Resolve(l, name)
			wanted := Target{}
			if wantThere {
				wanted = Target{want.unit, l[want.unit].Image.Syms[want.at+1]}
			}
			if there != wantThere || x != wanted {
				t.Fatalf("%q of %+v: %+v %v, not %+v %v", name, p, x, there, wanted, wantThere)
			}
			seen[there]++
		}
	}
	if seen[true] < 5000 || seen[false] < 5000 {
		t.Error(seen)
	}
}

// P17.2, P17.3: stirred units.
func TestStirredWords(t *testing.T) {
	r := rand.New(rand.NewSource(1702))
	seen, kinds := map[api.Errno]int{}, map[bool]int{}
	for range 20000 {
		l, p := stirred(t, r)
		m := placed(t, l)
		want, wantErr := plainWords(p, m)
		w, e := Words(l, m)
		if e != wantErr || !reflect.DeepEqual(w, want) {
			t.Fatalf("%+v: %+v %d, not %+v %d", p, w, e, want, wantErr)
		}
		seen[e]++
		for _, x := range w {
			kinds[x.Unit < 0]++
		}
	}
	for _, e := range []api.Errno{api.OK, api.ErrSymbol, api.ErrReloc} {
		if seen[e] < 1000 {
			t.Error("seldom", e, seen)
		}
	}
	if kinds[true] < 1000 || kinds[false] < 1000 {
		t.Error(kinds)
	}
}

// P17.4: where modules move, a word changes by as much as the unit moves into which it points, and those that point into none stay.
func TestMoved(t *testing.T) {
	r := rand.New(rand.NewSource(1704))
	into, other := 0, 0
	for range 5000 {
		l, p := stirred(t, r)
		m := placed(t, l)
		bases := layout.Bases(l)
		// Far apart and in another order, some of them below where they were.
		for k, place := range r.Perm(len(bases)) {
			bases[k] = uint64(place)<<24 + 256*uint64(r.Intn(1<<14))
		}
		moved, e := layout.Place(l, bases)
		if e != api.OK {
			t.Fatal(bases, e)
		}
		before, eBefore := Words(l, m)
		after, eAfter := Words(l, moved)
		if eBefore != eAfter || len(before) != len(after) {
			t.Fatalf("%+v: %+v %d, %+v %d", p, before, eBefore, after, eAfter)
		}
		for k, w := range before {
			x := after[k]
			shift := uint64(0)
			if w.Unit >= 0 {
				shift = bases[w.Unit] - m[w.Unit].Base
				into++
			} else {
				other++
			}
			if x.Unit != w.Unit || x.Value != w.Value+shift {
				t.Fatalf("%+v at %d: %+v, %+v", p, bases, w, x)
			}
		}
	}
	if into < 1000 || other < 500 {
		t.Error(into, other)
	}
}
