package layout

import (
	"math/big"
	"math/rand"
	"reflect"
	"slices"
	"strconv"
	"testing"

	"dormouse/api"
	"dormouse/closure"
)

// plain is a unit for a reckoning by the words of the chapter, with exact numbers: from where to where it lies without a base, and its Tls, if that is not below 0.
type plain struct {
	name       string
	start, end *big.Int
	tls        int64
}

// round is a number rounded up to a multiple of n.
func round(x, n int64) int64 { return (x + n - 1) / n * n }

// exact is a number of 64 bits as an exact one.
func exact(x uint64) *big.Int { return new(big.Int).SetUint64(x) }

// plainPlace are the modules and the error.
func plainPlace(l []plain, bases []uint64) ([]Module, api.Errno) {
	if len(l) != len(bases) {
		return nil, api.ErrArg
	}
	var out []Module
	for k, u := range l {
		low, high := new(big.Int).Add(exact(bases[k]), u.start), new(big.Int).Add(exact(bases[k]), u.end)
		if bases[k]%256 != 0 || high.Cmp(big.NewInt(1<<32)) > 0 {
			return nil, api.ErrBase
		}
		for _, m := range out {
			if low.Cmp(exact(m.High)) < 0 && exact(m.Low).Cmp(high) < 0 && low.Cmp(high) < 0 && m.Low < m.High {
				return nil, api.ErrOver
			}
		}
		m := Module{Name: u.name, Base: bases[k], Low: low.Uint64(), High: high.Uint64()}
		if u.tls >= 0 {
			m.Tls, m.TlsMem = true, uint64(u.tls)
			for _, before := range l[:k] {
				m.TlsOff += uint64(round(max(before.tls, 0), 8))
			}
		}
		out = append(out, m)
	}
	return out, api.OK
}

// plainBases are the bases, exactly.
func plainBases(l []plain) []*big.Int {
	var out []*big.Int
	for k, u := range l {
		base := big.NewInt(4096)
		if k > 0 {
			base = new(big.Int).Add(out[k-1], l[k-1].end)
			base.Add(base, big.NewInt(256)).Sub(base, u.start)
		}
		out = append(out, base)
	}
	return out
}

// stirred are units and what they are plainly.
func stirred(t *testing.T, r *rand.Rand) ([]closure.Unit, []plain) {
	t.Helper()
	var l []closure.Unit
	var p []plain
	for k := range r.Intn(9) {
		name := strconv.Itoa(k)
		var pieces []piece
		at := r.Int63n([]int64{1, 600, 6000, 1 << 32}[r.Intn(4)])
		start, end := at/256*256, int64(0)
		for range 1 + r.Intn(3) {
			size := 1 + r.Int63n([]int64{1, 300, 3000}[r.Intn(3)])
			if r.Intn(20) == 0 {
				size = 1 + r.Int63n(1<<32)
			}
			if at+size > 1<<32 {
				if len(pieces) > 0 {
					break
				}
				size = 1<<32 - at
			}
			pieces = append(pieces, piece{uint64(at), uint64(size)})
			end = round(at+size, 256)
			at = end + r.Int63n(700)
		}
		tls := int64(-1)
		var others []api.Seg
		if r.Intn(2) == 0 {
			tls = r.Int63n([]int64{1, 20, 1<<32 + 1}[r.Intn(3)])
			others = append(others, api.Seg{Type: api.SegTls, Flags: uint32(r.Intn(8)), Mem: uint64(tls)})
		}
		if r.Intn(3) == 0 {
			others = append(others, api.Seg{Type: uint32([]int{api.SegNull, api.SegNote}[r.Intn(2)]), Vaddr: uint64(r.Intn(1 << 20)), Mem: uint64(r.Intn(1 << 20))})
		}
		l = append(l, unit(t, name, pieces, others...))
		p = append(p, plain{name, big.NewInt(start), big.NewInt(end), tls})
	}
	return l, p
}

// stirredBases are such that units may meet, or lie side by side, or beside Top.
func stirredBases(r *rand.Rand, l []closure.Unit, p []plain) []uint64 {
	bases := Bases(l)
	for k := range bases {
		switch r.Intn(12) {
		case 0:
			bases[k] -= 256 * uint64(r.Intn(3))
		case 1:
			bases[k] += 256 * uint64(r.Intn(20))
		case 2:
			bases[k] = 256 * uint64(r.Intn(100))
		case 3:
			bases[k] = api.Top - p[k].end.Uint64() + 256*uint64(r.Intn(3)) - 256
		case 4:
			bases[k] += uint64(r.Intn(60)) / 59
		}
	}
	if r.Intn(20) == 0 {
		bases = append(bases, 4096)
	}
	return bases
}

// follows tells what P16.3 says of modules: no two of them have an address in common; and what Of says of their edges.
func follows(t *testing.T, m []Module) {
	t.Helper()
	for k, a := range m {
		for _, b := range m[:k] {
			if max(a.Low, b.Low) < min(a.High, b.High) {
				t.Fatalf("%+v and %+v meet", a, b)
			}
		}
		for _, addr := range []uint64{a.Low, a.High - 1, a.High, a.Low - 1, (a.Low + a.High) / 2} {
			want := slices.IndexFunc(m, func(b Module) bool { return addr >= b.Low && addr < b.High })
			if got := Of(m, addr); got != want {
				t.Fatalf("%d is of %d, not %d, of %+v", addr, got, want, m)
			}
		}
		if Of(m, a.Low) != k || Of(m, a.High-1) != k {
			t.Fatalf("%+v is not of itself", a)
		}
	}
}

// P16.1, P16.2, P16.3: stirred units at stirred bases.
func TestStirred(t *testing.T) {
	r := rand.New(rand.NewSource(16))
	seen := map[api.Errno]int{}
	for range 20000 {
		l, p := stirred(t, r)
		bases := stirredBases(r, l, p)
		want, wantErr := plainPlace(p, bases)
		m, e := Place(l, bases)
		if e != wantErr || !reflect.DeepEqual(m, want) {
			t.Fatalf("%+v at %d: %+v %d, not %+v %d", p, bases, m, e, want, wantErr)
		}
		follows(t, m)
		sum := int64(0)
		for k := range m {
			sum += round(max(p[k].tls, 0), 8)
		}
		if Block(m) != uint64(sum) {
			t.Fatalf("%+v: %d, not %d", m, Block(m), sum)
		}
		seen[e]++
	}
	for _, e := range []api.Errno{api.OK, api.ErrArg, api.ErrBase, api.ErrOver} {
		if seen[e] < 500 {
			t.Error("seldom", e, seen)
		}
	}
}

// P16.2, P16.3: Bases are the exact ones modulo 2^64, and good where those aren't below 0 and leave all below Top.
func TestStirredBases(t *testing.T) {
	r := rand.New(rand.NewSource(1602))
	around := new(big.Int).Lsh(big.NewInt(1), 64)
	seen := map[bool]int{}
	for range 10000 {
		l, p := stirred(t, r)
		want, bases := plainBases(p), Bases(l)
		if len(want) != len(bases) {
			t.Fatal(len(want), len(bases))
		}
		room := true
		for k, x := range want {
			if new(big.Int).Mod(x, around).Cmp(exact(bases[k])) != 0 {
				t.Fatalf("%+v: %d, not %d", p, bases, want)
			}
			room = room && x.Sign() >= 0 && new(big.Int).Add(x, p[k].end).Cmp(big.NewInt(1<<32)) <= 0
		}
		m, e := Place(l, bases)
		if (e == api.OK) != room || (!room && e != api.ErrBase) {
			t.Fatalf("%+v at %d: %d", p, bases, e)
		}
		follows(t, m)
		seen[room]++
	}
	if seen[true] < 500 || seen[false] < 500 {
		t.Error(seen)
	}
}
