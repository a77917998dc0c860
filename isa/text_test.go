package isa

import (
	"math"
	"math/big"
	"math/rand"
	"regexp"
	"strconv"
	"strings"
	"testing"

	"dormouse/api"
)

// plainText is a valid instruction's text.
func plainText(o listed, i Ins) string {
	s := o.name
	for _, letter := range []byte(o.uses) {
		s += " " + strconv.Itoa(of(i, letter))
	}
	return s
}

// decimal is the form of a number of a text.
const decimal = ` +(0|-?[1-9][0-9]*)`

// forms are the forms of the texts of each operation.
func forms() map[listed]*regexp.Regexp {
	m := map[listed]*regexp.Regexp{}
	for _, o := range list() {
		m[o] = regexp.MustCompile(`\A *` + o.name + strings.Repeat(decimal, len(o.uses)) + ` *\z`)
	}
	return m
}

// plainParse is what Parse should answer, worked out by the forms.
func plainParse(m map[listed]*regexp.Regexp, s string) (Ins, api.Errno) {
	for o, form := range m {
		found := form.FindStringSubmatch(s)
		if found == nil {
			continue
		}
		i := Ins{Op: o.op}
		for k, letter := range []byte(o.uses) {
			least, most := int64(0), int64(31)
			if letter == 'i' {
				least, most = math.MinInt32, math.MaxInt32
			}
			x, _ := new(big.Int).SetString(found[k+1], 10)
			if x.Cmp(big.NewInt(least)) < 0 || x.Cmp(big.NewInt(most)) > 0 {
				return Ins{}, api.ErrForm
			}
			i = with(i, letter, int(x.Int64()))
		}
		return i, api.OK
	}
	return Ins{}, api.ErrForm
}

// parses fails the test unless Parse answers this instruction.
func parses(t *testing.T, s string, want Ins) {
	t.Helper()
	if i, e := Parse(s); i != want || e != api.OK {
		t.Fatalf("Parse of %q: %v, %d; want %v, 0", s, i, e, want)
	}
}

// noText fails the test unless Parse answers ErrForm and nothing else.
func noText(t *testing.T, s string) {
	t.Helper()
	if i, e := Parse(s); i != (Ins{}) || e != api.ErrForm {
		t.Fatalf("Parse of %q: %v, %d; want nothing, %d", s, i, e, api.ErrForm)
	}
}

// tells fails the test unless Text answers this text, and Parse the instruction of it.
func tells(t *testing.T, i Ins, want string) {
	t.Helper()
	if s, e := Text(i); s != want || e != api.OK {
		t.Fatalf("Text of %v: %q, %d; want %q, 0", i, s, e, want)
	}
	parses(t, want, i)
}

// P12.2: texts written out by hand; the first two are the chapter's examples.
func TestTexts(t *testing.T) {
	for _, c := range []struct {
		i Ins
		s string
	}{
		{Ins{OpAddi, 1, 2, 0, -1}, "addi 1 2 -1"},
		{Ins{OpLd8, 3, 4, 0, 16}, "ld8 3 4 16"},
		{Ins{OpNop, 0, 0, 0, 0}, "nop"},
		{Ins{OpSys, 0, 0, 0, 0}, "sys"},
		{Ins{OpMov, 0, 31, 0, 0}, "mov 0 31"},
		{Ins{OpAdd, 1, 2, 3, 0}, "add 1 2 3"},
		{Ins{OpSltu, 31, 0, 10, 0}, "sltu 31 0 10"},
		{Ins{OpMovi, 7, 0, 0, 0}, "movi 7 0"},
		{Ins{OpMovi, 0, 0, 0, math.MinInt32}, "movi 0 -2147483648"},
		{Ins{OpMovhi, 0, 0, 0, math.MaxInt32}, "movhi 0 2147483647"},
		{Ins{OpSt1, 30, 31, 0, -10}, "st1 30 31 -10"},
		{Ins{OpJmp, 0, 0, 0, -8}, "jmp -8"},
		{Ins{OpJr, 0, 5, 0, 0}, "jr 5"},
		{Ins{OpCallr, 1, 5, 0, 0}, "callr 1 5"},
		{Ins{OpTrap, 0, 0, 0, 1000000}, "trap 1000000"},
	} {
		tells(t, c.i, c.s)
	}
}

// P12.2: each operation's mnemonic and the fields that it uses, in their order.
func TestTextOfEachOperation(t *testing.T) {
	for _, o := range list() {
		for _, i := range some(o) {
			tells(t, i, plainText(o, i))
		}
	}
}

// P12.2: spaces at the beginning, at the end, and more than one between the parts.
func TestSpaces(t *testing.T) {
	parses(t, " addi 1  2 -1", Ins{OpAddi, 1, 2, 0, -1})
	for _, o := range list() {
		for _, i := range []Ins{some(o)[0], some(o)[len(some(o))-1]} {
			s := plainText(o, i)
			for _, n := range []int{0, 1, 2, 3, 100} {
				spaces := strings.Repeat(" ", n)
				parses(t, spaces+s, i)
				parses(t, s+spaces, i)
				parses(t, spaces+s+spaces, i)
				parses(t, strings.ReplaceAll(s, " ", " "+spaces), i)
				parses(t, spaces+strings.ReplaceAll(s, " ", spaces+" ")+spaces, i)
			}
		}
	}
}

// P12.2: other white space is no space, wherever it stands.
func TestOtherSpace(t *testing.T) {
	for _, other := range []string{"\t", "\n", "\v", "\f", "\r", "\r\n", "\x00", "\x1f", "!", "_", ",", "\u0085", "\u00a0", "\u2003", "\u3000", "\xa0", "\x85", "\xff"} {
		for _, s := range []string{"nop", "mov 1 2", "addi 1 2 -1", "jmp 8", "sys"} {
			noText(t, other)
			noText(t, other+s)
			noText(t, s+other)
			noText(t, other+" "+s)
			noText(t, s+" "+other)
			noText(t, " "+other+s+other+" ")
			for at := range s {
				noText(t, s[:at]+other+s[at:])
				if s[at] == ' ' {
					noText(t, s[:at]+other+s[at+1:])
					noText(t, s[:at]+" "+other+" "+s[at+1:])
				}
			}
		}
	}
}

// P12.2: no parts, and one too few or too many of each operation.
func TestParts(t *testing.T) {
	for _, s := range []string{"", " ", "   ", "0", "1", "-1", "1 2 3", "#", "# nop", "nop #", "nop nop", "nop 0", "sys 40"} {
		noText(t, s)
	}
	for _, o := range list() {
		for n := range 7 {
			s := o.name + strings.Repeat(" 3", n)
			if n == len(o.uses) {
				i := Ins{Op: o.op}
				for _, letter := range []byte(o.uses) {
					i = with(i, letter, 3)
				}
				parses(t, s, i)
				continue
			}
			noText(t, s)
			noText(t, " "+s+" ")
			noText(t, o.name+strings.Repeat("  0", n))
		}
	}
}

// P12.2: words that are no mnemonic.
func TestMnemonics(t *testing.T) {
	for _, name := range []string{"foo", "NOP", "Nop", "noP", "no", "nopp", "op", "n", "ld", "ld3", "st", "addii", "subi", "movl", "bgt", "ret", "1", "40", "-", "nop.", "ｎop", "\xff"} {
		for n := range 5 {
			noText(t, name+strings.Repeat(" 1", n))
		}
	}
	for _, o := range list() {
		for n := range 5 {
			numbers := strings.Repeat(" 1", n)
			noText(t, strings.ToUpper(o.name)+numbers)
			noText(t, strings.ToUpper(o.name[:1])+o.name[1:]+numbers)
			noText(t, o.name[:1]+" "+o.name[1:]+numbers)
			noText(t, strconv.Itoa(o.op)+numbers)
			noText(t, "q"+o.name+numbers)
			noText(t, o.name+"q"+numbers)
		}
	}
}

// P12.2: what is no number, or not in the form of Text, in each field of each operation.
func TestNumbers(t *testing.T) {
	wrong := []string{
		"00", "01", "007", "00000000000000000000001", "-0", "-00", "-01", "+0", "+1", "+", "-", "--1", "+-1", "-+1", "1-", "1+",
		"x", "a", "1a", "a1", "0x1", "0b1", "0o1", "0X1", "1_0", "1.0", "1.", ".1", "1e1", "1,", "1,2", "r1", "R1", "#1", "1#", "'1'", "inf", "nan",
		"\u0661", "\uff11", "1\x00", "\x001", "1\t", "\t1", "\xff", "\u22121",
		"18446744073709551615", "18446744073709551616", "18446744073709551617", "9223372036854775807", "9223372036854775808", "-9223372036854775808", "-9223372036854775809",
		"4294967296", "4294967297", "-4294967295", "-4294967296", "340282366920938463463374607431768211457", "1" + strings.Repeat("0", 100), "-1" + strings.Repeat("0", 100), strings.Repeat("9", 10000),
	}
	for _, o := range list() {
		for k, letter := range []byte(o.uses) {
			l := append(wrong, "-1", "32", "33", "100", "-31", "2147483647", "-2147483648")
			if letter == 'i' {
				l = append(wrong, "2147483648", "2147483649", "-2147483649", "-2147483650", "4294967295")
			}
			for _, x := range l {
				parts := strings.Split(o.name+strings.Repeat(" 1", len(o.uses)), " ")
				parts[k+1] = x
				noText(t, strings.Join(parts, " "))
				noText(t, "  "+strings.Join(parts, "  ")+"  ")
			}
		}
	}
}

// P12.2: each number near the edges of what the fields may be, in each field of each operation.
func TestNearEdges(t *testing.T) {
	near := []int{math.MinInt32 - 2, math.MinInt32 - 1, math.MinInt32, math.MinInt32 + 1, math.MaxInt32 - 1, math.MaxInt32, math.MaxInt32 + 1, math.MaxInt32 + 2, 1<<32 - 1, 1 << 32, 1<<32 + 1}
	for x := -40; x <= 300; x++ {
		near = append(near, x)
	}
	for _, o := range list() {
		for k, letter := range []byte(o.uses) {
			for _, x := range near {
				parts := strings.Split(o.name+strings.Repeat(" 0", len(o.uses)), " ")
				parts[k+1] = strconv.Itoa(x)
				s := strings.Join(parts, " ")
				if letter == 'i' && math.MinInt32 <= x && x <= math.MaxInt32 || letter != 'i' && 0 <= x && x <= 31 {
					parses(t, s, with(Ins{Op: o.op}, letter, x))
					continue
				}
				noText(t, s)
			}
		}
	}
}

// P12.2: each byte, alone and at each place of a text, held against the forms.
func TestEachByte(t *testing.T) {
	m := forms()
	for _, s := range []string{"addi 1 2 -1", "nop", "ld8 10 0 0", " jr  3 "} {
		for c := range 256 {
			one := string([]byte{byte(c)})
			for at := range s {
				for _, changed := range []string{one, s[:at] + one + s[at+1:], s[:at] + one + s[at:], s + one} {
					want, err := plainParse(m, changed)
					if i, e := Parse(changed); i != want || e != err {
						t.Fatalf("Parse of %q: %v, %d; want %v, %d", changed, i, e, want, err)
					}
				}
			}
		}
	}
}

// P12.2: texts of any kind, made of pieces that often fit, held against the forms; what Parse takes has just one text without the spaces that may be more.
func TestAnyTexts(t *testing.T) {
	m := forms()
	pieces := []string{" ", " ", " ", "  ", "0", "1", "31", "32", "-", "-1", "+1", "01", "2147483647", "2147483648", "-2147483648", "x", "\t"}
	for _, o := range list() {
		pieces = append(pieces, o.name)
	}
	r := rand.New(rand.NewSource(2))
	taken := 0
	for range 60000 {
		o := list()[r.Intn(38)]
		parts := []string{strings.Repeat(" ", r.Intn(2)), o.name}
		for range o.uses {
			parts = append(parts, strings.Repeat(" ", 1+r.Intn(2)), strconv.Itoa(r.Intn(33)))
		}
		for range r.Intn(3) {
			at := r.Intn(len(parts))
			parts[at] = pieces[r.Intn(len(pieces))]
		}
		s := strings.Join(parts, "")
		want, err := plainParse(m, s)
		i, e := Parse(s)
		if i != want || e != err {
			t.Fatalf("Parse of %q: %v, %d; want %v, %d", s, i, e, want, err)
		}
		if e != api.OK {
			continue
		}
		taken++
		if again, e := Text(i); again != regexp.MustCompile(` +`).ReplaceAllString(strings.Trim(s, " "), " ") || e != api.OK {
			t.Fatalf("Text of Parse of %q: %q, %d", s, again, e)
		}
	}
	if taken < 1000 {
		t.Errorf("only %d texts were taken", taken)
	}
}

// P12.2: long texts are right or wrong like short ones.
func TestLongTexts(t *testing.T) {
	spaces := strings.Repeat(" ", 1<<20)
	parses(t, spaces+"movi"+spaces+"1"+spaces+"-5"+spaces, Ins{OpMovi, 1, 0, 0, -5})
	noText(t, spaces)
	noText(t, spaces+"nop"+spaces+"1")
	noText(t, strings.Repeat("nop ", 1<<18))
	noText(t, strings.Repeat("n", 1<<20))
	noText(t, "jmp "+strings.Repeat("0", 1<<20))
	noText(t, "jmp -"+strings.Repeat("1", 1<<20))
}
