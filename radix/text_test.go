package radix_test

import (
	"fmt"
	"slices"
	"strings"
	"testing"

	"ziggurat/api"
	"ziggurat/limb"
	"ziggurat/radix"
)

// P17.1: Text and Parse

func TestTextExamples(t *testing.T) {
	byEach(t, func(t *testing.T, x api.Table) {
		e := radix.New(x)
		s, err := e.Text(api.Nat{255}, 16)
		fine(t, "Text of 255", err)
		if s != "ff" {
			t.Errorf("Text of 255: %q", s)
		}
		a, err := e.Parse("007", 8)
		fine(t, "Parse of 007", err)
		words(t, "Parse of 007", a, api.Nat{7})
	})
}

// Texts that are told by letters, with and without zero words on top.
func TestTextByHand(t *testing.T) {
	byEach(t, func(t *testing.T, x api.Table) {
		e := radix.New(x)
		for _, c := range []struct {
			a    api.Nat
			base int
			s    string
		}{
			{nil, 2, "0"},
			{nil, 10, "0"},
			{nil, 36, "0"},
			{api.Nat{1}, 2, "1"},
			{api.Nat{2}, 2, "10"},
			{api.Nat{5}, 2, "101"},
			{api.Nat{255}, 2, "11111111"},
			{api.Nat{255}, 3, "100110"},
			{api.Nat{255}, 10, "255"},
			{api.Nat{9}, 10, "9"},
			{api.Nat{10}, 10, "10"},
			{api.Nat{10}, 11, "a"},
			{api.Nat{35}, 36, "z"},
			{api.Nat{36}, 36, "10"},
			{api.Nat{46655}, 36, "zzz"},
			{api.Nat{1234567890123456789}, 10, "1234567890123456789"},
			{api.Nat{most}, 10, "18446744073709551615"},
			{api.Nat{most}, 16, "ffffffffffffffff"},
			{api.Nat{most}, 36, "3w5e11264sgsf"},
			{api.Nat{0x0123456789abcdef}, 16, "123456789abcdef"},
			{api.Nat{0xfedcba9876543210}, 16, "fedcba9876543210"},
			{api.Nat{0, 1}, 10, "18446744073709551616"},
			{api.Nat{0, 1}, 16, "1" + strings.Repeat("0", 16)},
			{api.Nat{0, 0, 1}, 10, "340282366920938463463374607431768211456"},
			{same(most, 3), 8, strings.Repeat("7", 64)},
			{same(most, 40), 16, strings.Repeat("f", 640)},
			{above(api.Nat{1}, 50), 2, "1" + strings.Repeat("0", 3200)},
			{above(api.Nat{1}, 60), 16, "1" + strings.Repeat("0", 960)},
			{raised(api.Nat{10}, 19), 10, "1" + strings.Repeat("0", 19)},
			{raised(api.Nat{10}, 1000), 10, "1" + strings.Repeat("0", 1000)},
			{minus(raised(api.Nat{10}, 1000), 1), 10, strings.Repeat("9", 1000)},
			{minus(raised(api.Nat{36}, 777), 1), 36, strings.Repeat("z", 777)},
		} {
			for more := range 3 {
				told := fmt.Sprintf("Text of %v to the base %d", c.a, c.base)
				s, err := e.Text(topped(c.a, more), c.base)
				fine(t, told, err)
				if s != c.s {
					t.Fatalf("%s: %s; asked is %s", told, s, c.s)
				}
				checkParse(t, e, strings.Repeat("0", more)+c.s, c.base, c.a)
			}
		}
	})
}

// 0, however it is written, is one nought; so many noughts are 0.
func TestTextOfZero(t *testing.T) {
	byEach(t, func(t *testing.T, x api.Table) {
		e := radix.New(x)
		for _, base := range textBases() {
			for _, zero := range zeros() {
				s, err := e.Text(zero, base)
				fine(t, "Text", err)
				if s != "0" {
					t.Fatalf("Text of 0 to the base %d: %q", base, s)
				}
			}
			for _, n := range []int{1, 2, 63, 64, 65, 1000, api.MaxText} {
				checkParse(t, e, strings.Repeat("0", n), base, nil)
			}
		}
	})
}

// Small numbers at all bases, by counting.
func TestTextSmallNumbers(t *testing.T) {
	t.Parallel()
	const letters = "0123456789abcdefghijklmnopqrstuvwxyz"
	e := radix.New(api.Table{})
	for _, base := range textBases() {
		for a := range uint64(1500) {
			asked := letters[a%uint64(base) : a%uint64(base)+1]
			for rest := a / uint64(base); rest > 0; rest /= uint64(base) {
				asked = letters[rest%uint64(base):rest%uint64(base)+1] + asked
			}
			s, err := e.Text(api.Nat{a}, base)
			fine(t, "Text", err)
			if s != asked {
				t.Fatalf("Text of %d to the base %d: %s; asked is %s", a, base, s, asked)
			}
			checkParse(t, e, s, base, limb.One(a))
		}
	}
}

// atPowers are the base less 1, the base, its powers to some hundreds of words, and the numbers next to them, noughts and few digits between.
func atPowers(base uint64) []api.Nat {
	b := api.Nat{base}
	list := []api.Nat{{1}, {base - 1}, b, plus(b, 1)}
	for _, k := range []int{2, 3, 4, 5, 8, 11, 12, 13, 19, 20, 31, 32, 33, 39, 40, 41, 62, 63, 64, 65, 126, 127, 200, 301} {
		p := raised(b, k)
		list = append(list, minus(p, 1), p, plus(p, 1), plus(product(p, api.Nat{base - 1}), 1), plus(product(p, p), 1), minus(product(p, p), 1))
	}
	return list
}

// All bases, at the powers of each and next to them.
func TestTextAtPowers(t *testing.T) {
	byEach(t, func(t *testing.T, x api.Table) {
		e := radix.New(x)
		for _, base := range textBases() {
			for i, a := range atPowers(uint64(base)) {
				checkText(t, e, topped(a, i%3), base)
			}
		}
	})
}

// Rows of all kinds, at lengths from one word to some dozens, at all bases.
func TestTextAllKinds(t *testing.T) {
	byEach(t, func(t *testing.T, x api.Table) {
		e := radix.New(x)
		for _, n := range []int{1, 2, 3, 4, 5, 6, 7, 8, 9, 12, 15, 16, 17, 31, 33, 40, 41} {
			list := rows(n)
			for _, base := range textBases() {
				checkText(t, e, list[(n+base)%len(list)], base)
				checkText(t, e, topped(list[(n+2*base+1)%len(list)], 1+base%4), base)
			}
			for i, a := range list {
				checkText(t, e, a, 10)
				checkText(t, e, topped(a, i%3), 2+(7*n+i)%35)
			}
		}
	})
}

// All lengths to a hundred and more, so that rows are cut at each place there is.
func TestTextAllLengths(t *testing.T) {
	byEach(t, func(t *testing.T, x api.Table) {
		e := radix.New(x)
		src := source(41)
		for n := range 130 {
			checkText(t, e, topped(src.row(n), n%2), 10)
			checkText(t, e, src.row(n), 2+n%35)
		}
	})
}

// Some hundreds of words.
func TestTextLong(t *testing.T) {
	byEach(t, func(t *testing.T, x api.Table) {
		e := radix.New(x)
		src := source(42)
		for i, n := range []int{199, 256, 600} {
			for _, base := range []int{2, 3, 10, 16, 35, 36} {
				checkText(t, e, topped(src.row(n), i%2), base)
			}
			checkText(t, e, same(most, n), 10)
			checkText(t, e, above(api.Nat{1}, n-1), 36)
		}
	})
}

// The greatest numbers: the text of one of them is longer than any that is read again.
func TestTextOfMaxWords(t *testing.T) {
	byFew(t, func(t *testing.T, x api.Table) {
		e := radix.New(x)
		src := source(43)
		checkText(t, e, src.row(api.MaxWords), 10)
		checkText(t, e, topped(same(most, api.MaxWords/2), api.MaxWords/2), 2)
	})
}

// The longest texts, and those of one byte more; what is read is printed again as it was.
func TestParseMaxText(t *testing.T) {
	byFew(t, func(t *testing.T, x api.Table) {
		e := radix.New(x)
		src := source(44)
		for _, base := range []int{2, 10, 36} {
			longest := make([]byte, api.MaxText)
			for i := range longest {
				longest[i] = "0123456789abcdefghijklmnopqrstuvwxyz"[src.next()%uint64(base)]
			}
			longest[0] = '1'
			s := string(longest)
			a, err := e.Parse(s, base)
			fine(t, "Parse", err)
			is(t, "the length", len(a), a.Len())
			back, err := e.Text(a, base)
			fine(t, "Text", err)
			if back != s || text(a, base) != s {
				t.Fatalf("a text of %d bytes to the base %d is read as another one", len(s), base)
			}
			for _, longer := range []string{s + "0", "0" + s, s + s, strings.Repeat("0", api.MaxText+1)} {
				a, err := e.Parse(longer, base)
				refused(t, "Parse of a text that is too long", err, api.ErrText, a)
			}
		}
	})
}

// wrongTexts are a text with a byte that is none of base's digits at the front, in the middle and at the end; some digits stand beside it, or many.
func wrongTexts(base int, wrong byte) []string {
	var list []string
	for _, n := range []int{0, 1, 3, 30, 200} {
		right := strings.Repeat("1", n)
		for _, s := range []string{string([]byte{wrong}) + right, right + string([]byte{wrong}) + right, right + string([]byte{wrong}), "0" + string([]byte{wrong}), string([]byte{wrong}) + "0"} {
			list = append(list, s)
		}
	}
	return list
}

// All bytes at all bases: each is a digit, or its text is refused, wherever it stands.
func TestParseBytes(t *testing.T) {
	byFew(t, func(t *testing.T, x api.Table) {
		e := radix.New(x)
		for _, base := range textBases() {
			digits := "0123456789abcdefghijklmnopqrstuvwxyz"[:base]
			for c := range 256 {
				if at := strings.IndexByte(digits, byte(c)); at >= 0 {
					checkParse(t, e, string([]byte{byte(c)}), base, limb.One(uint64(at)))
					checkParse(t, e, "1"+string([]byte{byte(c)}), base, api.Nat{uint64(base + at)})
					continue
				}
				for _, s := range wrongTexts(base, byte(c)) {
					a, err := e.Parse(s, base)
					refused(t, fmt.Sprintf("Parse of %q to the base %d", s, base), err, api.ErrText, a)
				}
			}
		}
		is(t, "Now", e.Now(), 0)
	})
}

// wrong are texts that say no number to the base 10, nor to any, if they hold no letters.
func wrong() []string {
	return []string{"", " ", "  ", "-", "+", "-0", "-1", "+1", "1-", "1+1", " 1", "1 ", "1 1", "\t1", "1\n", "1\x00", "\x00", "0x1F", "0X1", "1_000", "1,000", "1.0", "1e3", "A", "Z", "F", "É", "１", "٣", "1\u00a0", "\xff", "\x80", "0\x80", "\xb0", ":", "/", "`", "{", "@", "["}
}

func TestParseWrong(t *testing.T) {
	byEach(t, func(t *testing.T, x api.Table) {
		e := radix.New(x)
		for _, s := range wrong() {
			a, err := e.Parse(s, 10)
			refused(t, fmt.Sprintf("Parse of %q", s), err, api.ErrText, a)
		}
		for _, base := range textBases() {
			for _, s := range []string{"", "-1", "+1", "1 ", " 1", "A", "Z", "1A", "A1", "1\x00", "É"} {
				a, err := e.Parse(s, base)
				refused(t, fmt.Sprintf("Parse of %q to the base %d", s, base), err, api.ErrText, a)
			}
			// The text with great letters is none, if it has letters at all.
			s := text(raised(api.Nat{most}, 20), base)
			if great := strings.ToUpper(s); great != s {
				a, err := e.Parse(great, base)
				refused(t, fmt.Sprintf("Parse of %q to the base %d", great, base), err, api.ErrText, a)
			}
		}
	})
}

// Bases that no text has: ErrArg, whatever else is handed in, and nothing beside.
func TestTextWrongBases(t *testing.T) {
	byEach(t, func(t *testing.T, x api.Table) {
		e := radix.New(x)
		long := strings.Repeat("1", api.MaxText+1)
		for _, base := range noTextBases() {
			for _, a := range slices.Concat(zeros(), []api.Nat{{1}, {255, 0}, same(most, 50)}) {
				s, err := e.Text(a, base)
				refused(t, fmt.Sprintf("Text to the base %d", base), err, api.ErrArg)
				if s != "" {
					t.Fatalf("beside the error stands %q", s)
				}
			}
			for _, s := range slices.Concat(wrong(), []string{"0", "1", "12", "zz", long, long[1:]}) {
				a, err := e.Parse(s, base)
				refused(t, fmt.Sprintf("Parse to the base %d", base), err, api.ErrArg, a)
			}
		}
		is(t, "Muls", e.Muls(), 0)
		is(t, "Deep", e.Deep(), 0)
	})
}

// What was printed is read again as itself, by any other table; what was read is printed again without the noughts ahead.
func TestTextAndBack(t *testing.T) {
	t.Parallel()
	src := source(45)
	list := tables()
	for i := range 400 {
		print, read := radix.New(list[i%len(list)]), radix.New(list[i/3%len(list)])
		base := 2 + i%35
		a := src.row(i % 90)
		s, err := print.Text(a, base)
		fine(t, "Text", err)
		checkParse(t, read, s, base, a)
		var letters []byte
		for range 1 + i*3 {
			letters = append(letters, "0123456789abcdefghijklmnopqrstuvwxyz"[src.next()%uint64(base)])
		}
		b, err := read.Parse(string(letters), base)
		fine(t, "Parse", err)
		asked := strings.TrimLeft(string(letters), "0")
		if asked == "" {
			asked = "0"
		}
		if s, _ := print.Text(b, base); s != asked {
			t.Fatalf("Text of Parse of %s: %s", letters, s)
		}
	}
}
