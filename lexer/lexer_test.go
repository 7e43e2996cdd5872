package lexer

import (
	"errors"
	"fmt"
	"math"
	"math/rand"
	"regexp"
	"slices"
	"strconv"
	"strings"
	"testing"
	"unsafe"

	"lockage/api"
	"lockage/label"
)

// refusal is what is wrong, and where; {0, api.OK}: nothing is.
type refusal struct {
	at int
	e  api.Errno
}

func at(place int, e api.Errno) refusal { return refusal{place, e} }

var fine = refusal{}

// holds asks of an error that it is this one: a fault at its place that wraps its Errno, and no other one.
func (want refusal) holds(t *testing.T, told string, err error) {
	t.Helper()
	if want == fine {
		if err != nil {
			t.Errorf("%.90s: %v", told, err)
		}
		return
	}
	var f *api.Fault
	if !errors.As(err, &f) || f == nil {
		t.Errorf("%.90s: %v is no fault", told, err)
		return
	}
	if f.At != want.at || f.Err != error(want.e) || At(err) != want.at {
		t.Errorf("%.90s: %v at %d (%d), not %v at %d", told, f.Err, f.At, At(err), want.e, want.at)
	}
	for e := api.OK - 1; e <= api.ErrWord+1; e++ {
		if errors.Is(err, e) != (e == want.e) {
			t.Errorf("%.90s: is it %d (%v)? %v", told, e, e, errors.Is(err, e))
		}
	}
}

// told is a call as a text.
func told(name string, args ...any) string {
	s := name
	for _, a := range args {
		s += fmt.Sprintf(" %#v", a)
	}
	return s
}

// asksLines asks for the words, or for what is wrong and for no words beside it.
func asksLines(t *testing.T, s string, want [][]Word, wrong refusal) {
	t.Helper()
	got, err := Lines(s)
	wrong.holds(t, told("Lines", s), err)
	if !slices.EqualFunc(got, want, slices.Equal[[]Word]) {
		t.Errorf("%.90q: %v, not %v", s, got, want)
	}
}

func asksName(t *testing.T, w Word, wrong refusal) {
	t.Helper()
	want := w.Text
	if wrong != fine {
		want = ""
	}
	got, err := Name(w)
	wrong.holds(t, told("Name", w), err)
	if got != want {
		t.Errorf("%v: %q", w, got)
	}
}

func asksNames(t *testing.T, w Word, want []Word, wrong refusal) {
	t.Helper()
	got, err := Names(w)
	wrong.holds(t, told("Names", w), err)
	if !slices.Equal(got, want) {
		t.Errorf("%v: %v, not %v", w, got, want)
	}
}

func asksNumber(t *testing.T, w Word, lo, hi, want int, wrong refusal) {
	t.Helper()
	got, err := Number(w, lo, hi)
	wrong.holds(t, told("Number", w, lo, hi), err)
	if got != want {
		t.Errorf("%v %d %d: %d, not %d", w, lo, hi, got, want)
	}
}

func asksLabel(t *testing.T, w Word, want api.Label, wrong refusal) {
	t.Helper()
	got, err := Label(w)
	wrong.holds(t, told("Label", w), err)
	if got != want {
		t.Errorf("%v: %v, not %v", w, got, want)
	}
}

// places are numbers at which a word may stand.
func places() []int {
	return []int{0, 1, 5, 599, 600, 601, 1 << 20, 1 << 32, 1 << 40, math.MaxInt - 1000, -1, -2, -5, -600, -1 << 32, math.MinInt, math.MinInt + 1}
}

// The plain ways: by patterns, each thing by itself.
var (
	noByte      = regexp.MustCompile(`[^\n -~]`)
	wordBytes   = regexp.MustCompile(`[!-~]+`)
	nameText    = regexp.MustCompile(`\A[a-z]{1,8}\z`)
	namePart    = regexp.MustCompile(`[^,]*`)
	numberText  = regexp.MustCompile(`\A(0|[1-9][0-9]{0,8})\z`)
	labelText   = regexp.MustCompile(`\A[0-7]:[0-9a-f]{4}\z`)
	atLineFeeds = regexp.MustCompile(`[^\n]*`)
)

func plainLines(s string) ([][]Word, refusal) {
	if len(s) > 600 {
		return nil, at(600, api.ErrNumber)
	}
	if found := noByte.FindStringIndex(s); found != nil {
		return nil, at(found[0], api.ErrForm)
	}
	var lines [][]Word
	for _, line := range atLineFeeds.FindAllStringIndex(s, -1) {
		var words []Word
		for _, w := range wordBytes.FindAllStringIndex(s[line[0]:line[1]], -1) {
			words = append(words, Word{s[line[0]+w[0] : line[0]+w[1]], line[0] + w[0]})
		}
		if words != nil {
			lines = append(lines, words)
		}
	}
	return lines, fine
}

func plainName(w Word) refusal {
	if !nameText.MatchString(w.Text) {
		return at(w.At, api.ErrName)
	}
	return fine
}

func plainNames(w Word) ([]Word, refusal) {
	var names []Word
	place := w.At
	for _, part := range strings.Split(w.Text, ",") {
		if wrong := plainName(Word{part, place}); wrong != fine {
			return nil, wrong
		}
		names = append(names, Word{part, place})
		place += len(part) + 1
	}
	return names, fine
}

func plainNumber(w Word, lo, hi int) (int, refusal) {
	if !numberText.MatchString(w.Text) {
		return 0, at(w.At, api.ErrNumber)
	}
	n := 0
	for _, digit := range w.Text {
		n = 10*n + int(digit) - 48
	}
	if n < lo || n > hi {
		return 0, at(w.At, api.ErrNumber)
	}
	return n, fine
}

func plainLabel(w Word) (api.Label, refusal) {
	if !labelText.MatchString(w.Text) {
		return api.Label{}, at(w.At, api.ErrForm)
	}
	set, _ := strconv.ParseUint(w.Text[2:], 16, 16)
	return api.Label{Level: int(w.Text[0]) - 48, Set: uint16(set)}, fine
}

// asksPlainly holds all calls against the plain ways.
func asksPlainly(t *testing.T, s string, place, lo, hi int) {
	t.Helper()
	lines, wrong := plainLines(s)
	asksLines(t, s, lines, wrong)
	w := Word{s, place}
	asksName(t, w, plainName(w))
	names, wrong := plainNames(w)
	asksNames(t, w, names, wrong)
	n, wrong := plainNumber(w, lo, hi)
	asksNumber(t, w, lo, hi, n, wrong)
	l, wrong := plainLabel(w)
	asksLabel(t, w, l, wrong)
}

// P7.1, Lines

func TestLines(t *testing.T) {
	for _, c := range []struct {
		s    string
		want [][]Word
	}{
		{"", nil},
		{"pipe p", [][]Word{{{"pipe", 0}, {"p", 5}}}},
		{"a", [][]Word{{{"a", 0}}}},
		{"ab", [][]Word{{{"ab", 0}}}},
		// Lines without words.
		{"\n", nil}, {"\n\n\n", nil}, {" ", nil}, {"   ", nil}, {" \n", nil}, {"\n ", nil}, {" \n  \n \n\n ", nil},
		{"\na", [][]Word{{{"a", 1}}}},
		{" \n\n  \na", [][]Word{{{"a", 6}}}},
		{"a\n\nb", [][]Word{{{"a", 0}}, {{"b", 3}}}},
		{"a\n  \n\n b", [][]Word{{{"a", 0}}, {{"b", 7}}}},
		{"a\n\n", [][]Word{{{"a", 0}}}},
		{"a\n\n  ", [][]Word{{{"a", 0}}}},
		{"a\n  \n", [][]Word{{{"a", 0}}}},
		// A line feed at the end, or none.
		{"a\n", [][]Word{{{"a", 0}}}},
		{"a\nb", [][]Word{{{"a", 0}}, {{"b", 2}}}},
		{"a\nb\n", [][]Word{{{"a", 0}}, {{"b", 2}}}},
		{"a b\nc d\n", [][]Word{{{"a", 0}, {"b", 2}}, {{"c", 4}, {"d", 6}}}},
		// One space and several.
		{" a", [][]Word{{{"a", 1}}}},
		{"   a", [][]Word{{{"a", 3}}}},
		{"a b", [][]Word{{{"a", 0}, {"b", 2}}}},
		{"a    b", [][]Word{{{"a", 0}, {"b", 5}}}},
		{"a ", [][]Word{{{"a", 0}}}},
		{"a    ", [][]Word{{{"a", 0}}}},
		{"  a  bc   def ", [][]Word{{{"a", 2}, {"bc", 5}, {"def", 10}}}},
		{"a \n b", [][]Word{{{"a", 0}}, {{"b", 4}}}},
		{"  a  \n  b  \n  c  ", [][]Word{{{"a", 2}}, {{"b", 8}}, {{"c", 14}}}},
		// A word is of any bytes from 33 to 126, whatever else they tell.
		{"!~ a,b ,, 7:ffff -5 \"\\", [][]Word{{{"!~", 0}, {"a,b", 3}, {",,", 7}, {"7:ffff", 10}, {"-5", 17}, {"\"\\", 20}}}},
		{"pipe p\n  task a  after b,c\n\n \ngate", [][]Word{{{"pipe", 0}, {"p", 5}}, {{"task", 9}, {"a", 14}, {"after", 17}, {"b,c", 23}}, {{"gate", 30}}}},
	} {
		asksLines(t, c.s, c.want, fine)
	}
}

func TestTheLongestText(t *testing.T) {
	a := func(n int) string { return strings.Repeat("a", n) }
	asksLines(t, a(599), [][]Word{{{a(599), 0}}}, fine)
	asksLines(t, a(600), [][]Word{{{a(600), 0}}}, fine)
	asksLines(t, a(598)+" b", [][]Word{{{a(598), 0}, {"b", 599}}}, fine)
	asksLines(t, a(598)+"\nb", [][]Word{{{a(598), 0}}, {{"b", 599}}}, fine)
	asksLines(t, a(599)+"\n", [][]Word{{{a(599), 0}}}, fine)
	asksLines(t, a(599)+"\t", nil, at(599, api.ErrForm))
	asksLines(t, "\t"+a(599), nil, at(0, api.ErrForm))
	for _, s := range []string{"", "a", " ", "\n", "\t", "\x00", "ä"} {
		for _, n := range []int{1, 2, 300, 599, 600, 601, 1 << 10, 1 << 16, 1 << 20} {
			tail := a(max(0, 601-len(s)))
			asksLines(t, s+tail, nil, at(600, api.ErrNumber))
			asksLines(t, tail+s, nil, at(600, api.ErrNumber))
			if n > 600 {
				asksLines(t, strings.Repeat(s, n)+a(601), nil, at(600, api.ErrNumber))
			}
		}
		if s != "" {
			asksPlainly(t, strings.Repeat(s, 600), 0, 0, 9)
			asksPlainly(t, strings.Repeat(s, 300), 0, 0, 9)
			asksPlainly(t, strings.Repeat(s, 601), 0, 0, 9)
		}
	}
	// A byte that may not be, ahead of the end of one that is too long, and behind it.
	for _, place := range []int{0, 1, 300, 599, 600} {
		s := []byte(a(601))
		s[place] = 9
		asksLines(t, string(s), nil, at(600, api.ErrNumber))
		if place < 600 {
			asksLines(t, string(s[:600]), nil, at(place, api.ErrForm))
		}
	}
	var many [][]Word
	for i := range 300 {
		many = append(many, []Word{{"a", 2 * i}})
	}
	asksLines(t, strings.Repeat("a\n", 300), many, fine)
	asksLines(t, strings.Repeat("a\n", 300)+"a", nil, at(600, api.ErrNumber))
	asksLines(t, strings.Repeat("a ", 300), [][]Word{slices.Concat(many...)}, fine)
}

func TestEachByteOfAText(t *testing.T) {
	for c := range 256 {
		b := string([]byte{byte(c)})
		alone, first, last, within, beside := [][]Word{{{b, 0}}}, [][]Word{{{b + "ab", 0}}}, [][]Word{{{"ab" + b, 0}}}, [][]Word{{{"a" + b + "b", 0}}}, [][]Word{{{"a", 0}, {b, 2}, {"b", 4}}}
		switch {
		case c == 10:
			alone, first, last, within, beside = nil, [][]Word{{{"ab", 1}}}, [][]Word{{{"ab", 0}}}, [][]Word{{{"a", 0}}, {{"b", 2}}}, [][]Word{{{"a", 0}}, {{"b", 4}}}
		case c == 32:
			alone, first, last, within, beside = nil, [][]Word{{{"ab", 1}}}, [][]Word{{{"ab", 0}}}, [][]Word{{{"a", 0}, {"b", 2}}}, [][]Word{{{"a", 0}, {"b", 4}}}
		case c < 33 || c > 126:
			for _, ahead := range []string{"", "a", "ab ", "ab\n", "\n", " ", strings.Repeat("z", 599)} {
				for _, behind := range []string{"", "a", " a", "\n", "\na", "\x00", "\xff", "é", b} {
					if len(ahead+b+behind) <= 600 {
						asksLines(t, ahead+b+behind, nil, at(len(ahead), api.ErrForm))
					}
				}
			}
			continue
		}
		asksLines(t, b, alone, fine)
		asksLines(t, b+"ab", first, fine)
		asksLines(t, "ab"+b, last, fine)
		asksLines(t, "a"+b+"b", within, fine)
		asksLines(t, "a "+b+" b", beside, fine)
	}
}

func TestTheFirstByteThatMayNotBe(t *testing.T) {
	for _, c := range []struct {
		s  string
		at int
	}{
		{"\t", 0}, {"\r\n", 0}, {"a\r\n", 1}, {"a\tb", 1}, {"a b\tc\td", 3}, {"ab\x00", 2}, {"a\x7f", 1}, {"a\x80b\xff", 1}, {"a\xffb\x80", 1},
		{"a\nb \x1f\x7f", 4}, {"é", 0}, {"aé", 1}, {"a€b", 1}, {"a\u00a0b", 1}, {"\ufeffpipe", 0}, {"a\x1f\nb\x1f", 1}, {"\n\n\n\v", 3}, {"   \f", 3}, {"a\u2028b", 1}, {"a\u0085", 1},
	} {
		asksLines(t, c.s, nil, at(c.at, api.ErrForm))
	}
}

// P7.1, Name and Names

func TestName(t *testing.T) {
	for _, place := range places() {
		for _, s := range []string{"a", "z", "m", "az", "za", "abcdefg", "abcdefgh", "ijklmnop", "qrstuvwx", "yz", "aaaaaaaa", "zzzzzzzz", "pipe", "task"} {
			asksName(t, Word{s, place}, fine)
		}
		for _, s := range []string{
			"", "abcdefghi", "zzzzzzzzz", strings.Repeat("a", 16), strings.Repeat("a", 256), strings.Repeat("a", 257), strings.Repeat("a", 264), strings.Repeat("a", 1<<16),
			"A", "Z", "Ab", "aB", "abcdefgH", "0", "9", "a0", "0a", "abcdefg1", "a,b", ",", "a,", ",a", " ", " a", "a ", "a b", "a\n", "\na", "\t", "a\x00", "\x00a", "\x00",
			"`", "{", "@", "[", "a`", "{a", "a-b", "a_b", "_", "é", "aé", "ß", "ａ", "a\x80", "\xff", "aaaaaaa\xff", "ééé", "ſ", "K",
		} {
			asksName(t, Word{s, place}, at(place, api.ErrName))
		}
	}
	for c := range 256 {
		b := string([]byte{byte(c)})
		for _, s := range []string{b, b + "a", "a" + b, "a" + b + "z", "abcdefg" + b, b + "bcdefgh", "abcdefgh" + b} {
			wrong := fine
			if c < 97 || c > 122 || len(s) > 8 {
				wrong = at(3, api.ErrName)
			}
			asksName(t, Word{s, 3}, wrong)
		}
	}
}

func TestNames(t *testing.T) {
	for _, place := range places() {
		for s, list := range map[string][]Word{
			"a": {{"a", 0}}, "abcdefgh": {{"abcdefgh", 0}}, "a,b": {{"a", 0}, {"b", 2}}, "ab,c": {{"ab", 0}, {"c", 3}}, "a,a": {{"a", 0}, {"a", 2}},
			"ab,cde,f": {{"ab", 0}, {"cde", 3}, {"f", 7}}, "abcdefgh,ijklmnop,z": {{"abcdefgh", 0}, {"ijklmnop", 9}, {"z", 18}},
			"a,b,c,d,e,f,g,h,i,j": {{"a", 0}, {"b", 2}, {"c", 4}, {"d", 6}, {"e", 8}, {"f", 10}, {"g", 12}, {"h", 14}, {"i", 16}, {"j", 18}},
		} {
			for i := range list {
				list[i].At += place
			}
			asksNames(t, Word{s, place}, list, fine)
		}
		for s, off := range map[string]int{
			"": 0, ",": 0, ",,": 0, ",a": 0, ",a,b": 0, "a,": 2, "ab,": 3, "a,b,": 4, "a,,b": 2, "ab,,": 3, "a,b,,c": 4, "ab,c,,": 5,
			"A": 0, "A,b": 0, "a,B": 2, "a,b,C": 4, "a,B,c": 2, "a,B,C": 2, "ab,,C": 3, "ab,C,": 3, "a,1": 2, "1,a": 0, "a, b": 2, "a ,b": 0, " a,b": 0, "a,b ": 2, "a;b": 0, "a,b;c": 2,
			"abcdefghi": 0, "a,abcdefghi": 2, "abcdefghi,a": 0, "abcdefgh,abcdefghi": 9, "a,b\n": 2, "a\n,b": 0, "a,\x00": 2, "a,é": 2, "é,a": 0, "a،b": 0, "a,\xff,": 2,
			"abcdefgh,ijklmnop,qrstuvwx,yz,A,B": 30,
		} {
			asksNames(t, Word{s, place}, nil, at(place+off, api.ErrName))
		}
	}
	for c := range 256 {
		b := string([]byte{byte(c)})
		for _, s := range []string{b, b + ",a", "a," + b, "a," + b + "c,d", "ab," + b + ",c", b + b} {
			w := Word{s, 40}
			want, wrong := plainNames(w)
			asksNames(t, w, want, wrong)
		}
	}
}

// So many would take far too long, if each part went through all that is left, or if what is behind a wrong one were gone through.
func TestManyNames(t *testing.T) {
	const many = 1 << 20
	s := strings.Repeat("ab,", many)
	got, err := Names(Word{s + "c", -7})
	if err != nil || len(got) != many+1 {
		t.Fatal(len(got), err)
	}
	for i, w := range got {
		if want := (Word{"ab", 3*i - 7}); w != want && i < many || i == many && w != (Word{"c", 3*many - 7}) {
			t.Fatal(i, w)
		}
	}
	asksNames(t, Word{s, -7}, nil, at(3*many-7, api.ErrName))
	asksNames(t, Word{strings.Repeat(",", many), 5}, nil, at(5, api.ErrName))
	asksNames(t, Word{"a," + strings.Repeat("b", many), 5}, nil, at(7, api.ErrName))
}

// P7.1, Number

func TestNumber(t *testing.T) {
	for _, place := range places() {
		for s, n := range map[string]int{
			"0": 0, "1": 1, "7": 7, "9": 9, "10": 10, "42": 42, "90": 90, "99": 99, "100": 100, "101": 101, "600": 600, "1000": 1000, "65535": 65535, "10000000": 10000000,
			"99999999": 99999999, "100000000": 100000000, "123456789": 123456789, "987654321": 987654321, "999999999": 999999999,
		} {
			w := Word{s, place}
			for _, lo := range []int{math.MinInt, -n - 1, n - 1, n} {
				for _, hi := range []int{n, n + 1, 2*n + 1, math.MaxInt} {
					asksNumber(t, w, lo, hi, n, fine)
				}
			}
			for _, bounds := range [][2]int{{n + 1, math.MaxInt}, {n + 1, n + 1}, {n + 1, n}, {n, n - 1}, {n + 1, n - 1}, {math.MinInt, n - 1}, {n - 1, n - 1}, {math.MaxInt, math.MinInt}, {math.MaxInt, n}, {n, math.MinInt}, {math.MinInt, -1}, {-9, -1}, {math.MaxInt, math.MaxInt}, {math.MinInt, math.MinInt}} {
				asksNumber(t, w, bounds[0], bounds[1], 0, at(place, api.ErrNumber))
			}
		}
	}
}

func TestWhatIsNoNumber(t *testing.T) {
	bounds := [][2]int{{0, 9}, {0, 100}, {math.MinInt, math.MaxInt}, {-9, 9}, {-9, -1}, {-5, -5}, {0, 0}, {1, 0}, {0, math.MaxInt}, {math.MinInt, 0}}
	for _, s := range []string{
		"", "00", "000", "07", "01", "007", "010", "00000000", "000000000", "0000000000", "000000001", "0000000001", "012345678", "0123456789",
		"1000000000", "1234567890", "9999999999", "2147483648", "4294967296", "4294967301", "9223372036854775807", "9223372036854775808", "18446744073709551616", "18446744073709551621", strings.Repeat("9", 64), strings.Repeat("9", 1<<16), strings.Repeat("0", 1<<16), "1" + strings.Repeat("0", 1<<16),
		"+", "-", "+0", "-0", "+5", "-5", "-1", "-9", "--5", "+-5", "5-", "5+", "-05", "-00", "-123456789", "+12345678", "-12345678", "-9223372036854775808",
		" ", " 5", "5 ", "5 5", "\t5", "5\t", "5\n", "\n5", "5\r", "5\x00", "\x005", "  ", "12345678 ", " 12345678",
		"a", "5a", "a5", "0x5", "0X5", "0b1", "0o7", "1_0", "1_000", "_1", "1_", "1e1", "1.0", "5.", ".5", "1,0", "5,", ",5", "NaN", "Inf", "nil", "٣", "５", "²", "½", "5\u0301", "/", ":", "5:", "/5", "\xb5", "5\xff", "!", "~",
	} {
		for _, place := range places() {
			for _, b := range bounds {
				asksNumber(t, Word{s, place}, b[0], b[1], 0, at(place, api.ErrNumber))
			}
		}
	}
	for c := range 256 {
		b := string([]byte{byte(c)})
		for _, s := range []string{b, b + "7", "7" + b, "7" + b + "7", b + "2345678", "1234567" + b, b + "23456789", "12345678" + b, b + "234567890", "123456789" + b} {
			w := Word{s, 12}
			n, wrong := plainNumber(w, 0, math.MaxInt)
			asksNumber(t, w, 0, math.MaxInt, n, wrong)
			asksNumber(t, w, math.MinInt, math.MaxInt, n, wrong)
		}
	}
}

func TestNumbersFromTo(t *testing.T) {
	for n := range 130 {
		w := Word{strconv.Itoa(n), n - 60}
		for _, lo := range []int{-3, -1, 0, 1, 2, 4, 5, 9, 10, 11, 99, 100, 101} {
			for _, hi := range []int{-4, -1, 0, 1, 4, 5, 6, 9, 10, 11, 99, 100, 101, 128} {
				want, wrong := n, fine
				if n < lo || n > hi {
					want, wrong = 0, at(n-60, api.ErrNumber)
				}
				asksNumber(t, w, lo, hi, want, wrong)
			}
		}
	}
}

// P7.1, Label

func TestAllLabels(t *testing.T) {
	for level := range 8 {
		for set := range 1 << 16 {
			w := Word{fmt.Sprintf("%d:%04x", level, set), set - 600}
			if got, err := Label(w); err != nil || got != (api.Label{Level: level, Set: uint16(set)}) {
				t.Fatal(w, got, err)
			}
		}
	}
}

func TestWhatIsNoLabel(t *testing.T) {
	for _, place := range places() {
		asksLabel(t, Word{"5:0003", place}, api.Label{Level: 5, Set: 3}, fine)
		asksLabel(t, Word{"0:0000", place}, api.Label{}, fine)
		asksLabel(t, Word{"7:ffff", place}, api.Label{Level: 7, Set: 0xffff}, fine)
		for _, s := range []string{
			"", ":", "0", "5", "5:", "5:3", "5:003", "5:00003", "05:0003", "8:0000", "9:0000", "a:0000", "-1:0000", "-:0000", "5;0003", "50003", "5 0003", "5:000G", "5:000g", "5:FFFF", "5:fffF", "A:0000",
			" 5:0003", "5:0003 ", "5:0003\n", "5: 003", "5:+003", "5:-003", "5:0x03", "5:0_03", "５:0003", "5：0003", "5:000\x00", "\x00:0000", "\xff\xff\xff\xff\xff\xff", "5:00 3", ":00003", "5::003", "5,0003", "secret", strings.Repeat("5:0003", 2), strings.Repeat("0", 1<<16),
		} {
			asksLabel(t, Word{s, place}, api.Label{}, at(place, api.ErrForm))
		}
	}
	for _, s := range []string{"0:0000", "7:ffff", "5:09af", "3:a1c0"} {
		for c := range 256 {
			for i := range s {
				for _, changed := range []string{s[:i] + string([]byte{byte(c)}) + s[i+1:], s[:i] + string([]byte{byte(c)}) + s[i:], s[:i] + s[i+1:]} {
					w := Word{changed, i}
					want, wrong := plainLabel(w)
					asksLabel(t, w, want, wrong)
					if l, e := label.Parse(changed); l != want || (e == api.OK) != (wrong == fine) {
						t.Errorf("%q: layer 1 tells %v %v", changed, l, e)
					}
				}
			}
		}
	}
}

// Any bytes at all

// anyText is a text like a manifest, or of its bytes in any order, or of any bytes, or like one word's.
func anyText(r *rand.Rand) string {
	const usual = "abyz  \n\n,,0179:-AZ!~"
	words := []string{"pipe", "task", "gate", "a", "bc", "abcdefgh", "abcdefghi", "a,b", "ab,cde,f", "a,,b", ",", "0", "7", "07", "100", "999999999", "1000000000", "5:0003", "8:0000", "7:fffF", "-1", "\t", "é"}
	long := r.Intn([]int{1, 5, 12, 60, 620, 700}[r.Intn(6)])
	var b []byte
	switch r.Intn(5) {
	case 0:
		for range long {
			b = append(b, byte(r.Intn(256)))
		}
	case 1:
		for range long {
			b = append(b, usual[r.Intn(len(usual))])
		}
	case 2:
		for range long {
			b = append(b, byte(10+r.Intn(2)*(22+r.Intn(95))))
		}
	case 3:
		b = append(b, words[r.Intn(len(words))]...)
		if r.Intn(2) == 0 && len(b) > 0 {
			b[r.Intn(len(b))] = usual[r.Intn(len(usual))]
		}
	default:
		for range r.Intn(1 + long/3) {
			b = append(b, words[r.Intn(len(words)-r.Intn(3))]...)
			b = append(b, []string{" ", "  ", "\n", "\n\n ", " \n"}[r.Intn(5)]...)
		}
	}
	return string(b)
}

func anyBound(r *rand.Rand) int {
	list := []int{math.MinInt, -1000000000, -1, 0, 1, 5, 7, 9, 10, 99, 100, 101, 999999998, 999999999, 1000000000, math.MaxInt}
	if r.Intn(2) == 0 {
		return list[r.Intn(len(list))]
	}
	return r.Intn(240) - 60
}

func TestAnyBytes(t *testing.T) {
	random := rand.New(rand.NewSource(7))
	var right, wrong [5]int
	for range 60000 {
		s := anyText(random)
		place := random.Intn(1300) - 650
		lo, hi := anyBound(random), anyBound(random)
		asksPlainly(t, s, place, lo, hi)
		if t.Failed() {
			t.Fatalf("%q", s)
		}
		for i, err := range errorsOf(s, lo, hi) {
			if err == nil {
				right[i]++
			} else {
				wrong[i]++
			}
		}
	}
	for i := range right {
		if right[i] < 200 || wrong[i] < 200 {
			t.Error("hardly held against each other:", i, right[i], wrong[i])
		}
	}
}

// errorsOf is what each call answers of one text.
func errorsOf(s string, lo, hi int) [5]error {
	w := Word{Text: s}
	_, lines := Lines(s)
	_, name := Name(w)
	_, names := Names(w)
	_, number := Number(w, lo, hi)
	_, l := Label(w)
	return [5]error{lines, name, names, number, l}
}

// All texts of up to five of these bytes.
func TestAllShortTexts(t *testing.T) {
	const few = "a, \n7\t"
	list := []string{""}
	for range 5 {
		for _, s := range list {
			asksPlainly(t, s, -2, 0, 80)
		}
		var longer []string
		for _, s := range list {
			for i := range few {
				longer = append(longer, s+few[i:i+1])
			}
		}
		list = longer
	}
	for _, s := range list {
		asksPlainly(t, s, 9, 70, 1000)
	}
}

// What is answered

// within: does a text stand in another one's memory?
func within(s, of string) bool {
	first := uintptr(unsafe.Pointer(unsafe.StringData(of)))
	at := uintptr(unsafe.Pointer(unsafe.StringData(s)))
	return len(s) > 0 && first <= at && at < first+uintptr(len(of))
}

// What is answered is new memory: not even a text, which nobody can write into, is a piece of what was handed in.
func TestAnswersAreNewMemory(t *testing.T) {
	s := strings.Clone("pipe p\ntask abcdefgh after ab,cd")
	lines, err := Lines(s)
	if err != nil {
		t.Fatal(err)
	}
	for _, w := range slices.Concat(lines...) {
		if within(w.Text, s) {
			t.Errorf("%v", w)
		}
	}
	for _, long := range []string{"a", "abcdefgh"} {
		w := Word{strings.Clone(long), 4}
		if name, _ := Name(w); within(name, w.Text) {
			t.Errorf("%q", name)
		}
		names, err := Names(w)
		if err != nil || within(names[0].Text, w.Text) {
			t.Errorf("%v %v", names, err)
		}
	}
	w := Word{strings.Clone("ab,cd,abcdefgh"), 4}
	names, err := Names(w)
	if err != nil {
		t.Fatal(err)
	}
	for _, n := range names {
		if within(n.Text, w.Text) {
			t.Errorf("%v", n)
		}
	}
}

// What is written into one list of an answer, its spare room too, moves no other one, nor a later answer.
func TestListsByThemselves(t *testing.T) {
	const s = "a b c\nd e\nf\n\ng h i j k\nl"
	want, _ := plainLines(s)
	lines, _ := Lines(s)
	for i := range lines {
		spare := lines[i][:cap(lines[i])]
		for j := range spare {
			spare[j] = Word{"x", -1}
		}
		for j := range lines {
			if j > i && !slices.Equal(lines[j], want[j]) {
				t.Errorf("%v, not %v", lines[j], want[j])
			}
		}
	}
	asksLines(t, s, want, fine)
	names, _ := Names(Word{"a,b,c", 1})
	names = names[:cap(names)]
	for i := range names {
		names[i] = Word{"x", -1}
	}
	asksNames(t, Word{"a,b,c", 1}, []Word{{"a", 1}, {"b", 3}, {"c", 5}}, fine)
}

// What is written into an error that was answered is in no later one.
func TestErrorsByThemselves(t *testing.T) {
	for range 2 {
		asksLines(t, "a\t", nil, at(1, api.ErrForm))
		asksLines(t, strings.Repeat("a", 601), nil, at(600, api.ErrNumber))
		asksName(t, Word{"A", 0}, at(0, api.ErrName))
		asksNames(t, Word{"a,A", 0}, nil, at(2, api.ErrName))
		asksNumber(t, Word{"x", 0}, 0, 9, 0, at(0, api.ErrNumber))
		asksLabel(t, Word{"x", 0}, api.Label{}, at(0, api.ErrForm))
		_, tooLong := Lines(strings.Repeat("a", 601))
		list := errorsOf("a\t", 0, 9)
		for _, err := range append(list[:], tooLong) {
			var f *api.Fault
			if !errors.As(err, &f) {
				t.Fatal(err)
			}
			*f = api.Fault{At: 77, Err: api.ErrDown}
		}
	}
}

// P7.2

// wrapped is an error of another one's type.
type wrapped struct {
	name string
	err  error
}

func (w wrapped) Error() string { return w.name }
func (w wrapped) Unwrap() error { return w.err }

// several wraps more than one; it can't be held against another one.
type several []error

func (s several) Error() string   { return "several" }
func (s several) Unwrap() []error { return s }

// alike tells errors.As itself what it is.
type alike struct{ f *api.Fault }

func (a alike) Error() string { return "alike" }
func (a alike) As(target any) bool {
	f, ok := target.(**api.Fault)
	if ok {
		*f = a.f
	}
	return ok
}

// panicking may be asked for nothing.
type panicking struct{ v any }

func (p panicking) Error() string { panic(p.v) }
func (p panicking) Unwrap() error { panic(p.v) }
func (p panicking) As(any) bool   { panic(p.v) }

// answered is an error that a call answered, and what it is to be.
type answered struct {
	want refusal
	err  error
}

// allFaults are errors of each call.
func allFaults(place int) []answered {
	w := func(s string) Word { return Word{s, place} }
	_, form := Lines("ab\x00")
	_, tooLong := Lines(strings.Repeat("a", 601))
	_, name := Name(w("A"))
	_, names := Names(w("ab,,c"))
	_, number := Number(w("101"), 1, 100)
	_, l := Label(w("8:0000"))
	return []answered{
		{at(2, api.ErrForm), form},
		{at(600, api.ErrNumber), tooLong},
		{at(place, api.ErrName), name},
		{at(place+3, api.ErrName), names},
		{at(place, api.ErrNumber), number},
		{at(place, api.ErrForm), l},
	}
}

func TestFaultsWrapped(t *testing.T) {
	for _, place := range places() {
		for _, a := range allFaults(place) {
			if _, ok := a.err.(*api.Fault); !ok {
				t.Errorf("%v is none itself", a.err)
			}
			deep := a.err
			for range 40 {
				a.want.holds(t, "wrapped", deep)
				a.want.holds(t, "wrapped", errors.Join(nil, deep))
				a.want.holds(t, "wrapped", several{wrapped{"none", nil}, deep})
				a.want.holds(t, "wrapped", fmt.Errorf("%d: %w, %w", place, errors.New("other"), deep))
				deep = wrapped{"more", fmt.Errorf("task: %w", deep)}
			}
		}
	}
}

func TestPlaces(t *testing.T) {
	for _, place := range places() {
		f := &api.Fault{At: place, Err: api.ErrWord}
		for told, e := range map[string]error{
			"itself": f, "wrapped": wrapped{"w", f}, "twice": wrapped{"v", wrapped{"w", f}}, "pointer": &wrapped{"w", f}, "with more": fmt.Errorf("%w %w", api.ErrForm, f), "joined": errors.Join(api.ErrForm, f),
			"first of two": errors.Join(f, &api.Fault{At: place + 1, Err: api.ErrName}), "outer": &api.Fault{At: place, Err: &api.Fault{At: place + 1, Err: api.ErrName}}, "alike": alike{f}, "wraps nothing": &api.Fault{At: place},
			"wraps another": &api.Fault{At: place, Err: errors.New("other")}, "ahead of a panic": several{f, panicking{1}}, "wraps a panic": &api.Fault{At: place, Err: panicking{1}}, "wraps none": &api.Fault{At: place, Err: (*api.Fault)(nil)},
		} {
			if got := At(e); got != place {
				t.Errorf("%s: %d, not %d", told, got, place)
			}
		}
	}
}

func TestNoPlaces(t *testing.T) {
	var none *api.Fault
	list := []error{
		nil, none, wrapped{"w", none}, alike{nil}, errors.New("fault"), errors.New("fault: form"), wrapped{"w", nil}, &wrapped{}, (*wrapped)(nil), several{}, several(nil), several{nil}, several{nil, api.ErrForm},
		fmt.Errorf("%v", &api.Fault{At: 5, Err: api.ErrForm}), fmt.Errorf("fault at %d: %w", 5, api.ErrForm), errors.Join(api.ErrForm, api.ErrName), errors.Join(),
		panicking{1}, panicking{nil}, panicking{errors.New("at")}, wrapped{"w", panicking{"at"}}, several{panicking{1}}, strconv.ErrRange, &strconv.NumError{Err: strconv.ErrRange},
	}
	for e := api.OK - 1; e <= api.ErrWord+1; e++ {
		list = append(list, e, wrapped{"w", e}, fmt.Errorf("%w", e))
	}
	for i, e := range list {
		if got := At(e); got != -1 {
			t.Errorf("%d %T: %d", i, e, got)
		}
	}
}

// A fault below so many others is found, and so is that there is none.
func TestDeep(t *testing.T) {
	var with, without error = &api.Fault{At: 11, Err: api.ErrForm}, api.ErrForm
	for range 1 << 16 {
		with, without = wrapped{"w", with}, wrapped{"w", without}
	}
	if At(with) != 11 || At(without) != -1 {
		t.Error(At(with), At(without))
	}
}

// What was asked ahead of it is in no answer.
func TestAnswersHangOnArgumentsAlone(t *testing.T) {
	random := rand.New(rand.NewSource(8))
	type asked struct {
		s             string
		place, lo, hi int
	}
	var list []asked
	for range 500 {
		list = append(list, asked{anyText(random), random.Intn(99) - 40, anyBound(random), anyBound(random)})
	}
	for range 3 {
		random.Shuffle(len(list), func(i, j int) { list[i], list[j] = list[j], list[i] })
		for _, a := range list {
			asksPlainly(t, a.s, a.place, a.lo, a.hi)
		}
	}
}
