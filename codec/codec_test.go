package codec

import (
	"fmt"
	"math"
	"math/big"
	"math/rand"
	"regexp"
	"slices"
	"strings"
	"testing"
	"unsafe"

	"lockage/api"
)

// The kinds of things that are written and read.
const (
	aNumber = iota
	aText
	aLabel
)

// thing is one that is written, and read again.
type thing struct {
	kind  int
	n     int
	text  string
	label api.Label
}

func number(n int) thing  { return thing{kind: aNumber, n: n} }
func text(s string) thing { return thing{kind: aText, text: s} }
func labelOf(level, set int) thing {
	return thing{kind: aLabel, label: api.Label{Level: level, Set: uint16(set)}}
}

func (g thing) write(w *Writer) {
	switch g.kind {
	case aNumber:
		w.Int(g.n)
	case aText:
		w.Text(g.text)
	case aLabel:
		w.Label(g.label)
	}
}

// plain is its text as the chapter tells it.
func (g thing) plain() string {
	switch g.kind {
	case aNumber:
		return fmt.Sprintf("%d,", g.n)
	case aText:
		return fmt.Sprintf("%d,%s", len(g.text), g.text)
	}
	return fmt.Sprintf("%d,%d,", g.label.Level, g.label.Set)
}

// step is what is asked of a reader: a number from lo to hi, a text of at most hi bytes, a label.
type step struct{ kind, lo, hi int }

// just is the step that takes nothing but what is as great as this one.
func (g thing) just() step {
	switch g.kind {
	case aNumber:
		return step{aNumber, g.n, g.n}
	case aText:
		return step{aText, 0, len(g.text)}
	}
	return step{kind: aLabel}
}

func (s step) take(r *Reader) thing {
	switch s.kind {
	case aNumber:
		return number(r.Int(s.lo, s.hi))
	case aText:
		return text(r.Text(s.hi))
	}
	return thing{kind: aLabel, label: r.Label()}
}

// plainReader reads by a pattern, and by numbers of any size.
type plainReader struct {
	s     string
	wrong bool
}

var numberText = regexp.MustCompile(`^(0|-?[1-9][0-9]*),`)

func (p *plainReader) number(lo, hi int) int {
	found := numberText.FindStringSubmatch(p.s)
	if p.wrong || found == nil {
		p.wrong = true
		return 0
	}
	n, _ := new(big.Int).SetString(found[1], 10)
	if n.Cmp(big.NewInt(int64(lo))) < 0 || n.Cmp(big.NewInt(int64(hi))) > 0 {
		p.wrong = true
		return 0
	}
	p.s = p.s[len(found[0]):]
	return int(n.Int64())
}

func (p *plainReader) take(s step) thing {
	got := thing{kind: s.kind}
	switch s.kind {
	case aNumber:
		got.n = p.number(s.lo, s.hi)
	case aText:
		size := p.number(0, s.hi)
		if p.wrong || size > len(p.s) {
			p.wrong = true
			break
		}
		got.text, p.s = p.s[:size], p.s[size:]
	case aLabel:
		level, set := p.number(0, 7), p.number(0, 65535)
		if !p.wrong {
			got.label = api.Label{Level: level, Set: uint16(set)}
		}
	}
	return got
}

// edges are numbers at which something turns.
func edges() []int {
	list := []int{0, math.MinInt, math.MinInt + 1, math.MaxInt - 1, math.MaxInt, 65535, 65536, math.MaxInt / 10, math.MinInt / 10}
	power := 1
	for range 19 {
		list = append(list, power-1, power, power+1, -power+1, -power, -power-1)
		power *= 10
	}
	for bit := range 63 {
		list = append(list, 1<<bit-1, 1<<bit, -1<<bit, -1<<bit-1)
	}
	slices.Sort(list)
	return slices.Compact(list)
}

// stopped asks for all that a reader answers behind the first that is wrong.
func stopped(t *testing.T, r *Reader, s string) {
	t.Helper()
	for range 2 {
		for _, next := range []step{{aNumber, math.MinInt, math.MaxInt}, {aNumber, 1, 9}, {aNumber, -9, -1}, {aText, 0, math.MaxInt}, {aText, 0, 0}, {kind: aLabel}} {
			if got := next.take(r); got != (thing{kind: next.kind}) {
				t.Errorf("%.90q: behind what is wrong: %v %v", s, next, got)
			}
			if r.Ok() || r.Done() {
				t.Errorf("%.90q: behind what is wrong: %v %v %v", s, next, r.Ok(), r.Done())
			}
		}
	}
}

// refuses asks that the thing in front of a text is wrong, whatever stands behind it.
func refuses(t *testing.T, s string, asked step) {
	t.Helper()
	for _, behind := range []string{"", "5,2,ab7,1,", ",5,", "0,"} {
		if len(behind) > 0 && !strings.HasSuffix(s, ",") {
			break // It would go on in what is behind.
		}
		r := NewReader(s + behind)
		if !r.Ok() {
			t.Errorf("%.90q: wrong from the first on", s+behind)
		}
		if got := asked.take(r); got != (thing{kind: asked.kind}) || r.Ok() || r.Done() {
			t.Errorf("%.90q %v: %v %v %v", s+behind, asked, got, r.Ok(), r.Done())
		}
		stopped(t, r, s+behind)
	}
}

// takes asks that the thing in front of a text is this one, and that what is behind is left.
func takes(t *testing.T, s string, asked step, want thing) {
	t.Helper()
	for _, behind := range []string{"", "x", ",", "7,", "\x00"} {
		r := NewReader(s + behind)
		if r.Done() {
			t.Errorf("%.90q: done ahead of it", s+behind)
		}
		if got := asked.take(r); got != want || !r.Ok() || r.Done() != (behind == "") {
			t.Errorf("%.90q %v: %v, not %v; %v %v", s+behind, asked, got, want, r.Ok(), r.Done())
		}
	}
}

// P6.1

func TestNothingIsWritten(t *testing.T) {
	var w Writer
	for range 2 {
		if w.String() != "" {
			t.Errorf("%q", w.String())
		}
		w.Int()
		w.Text()
		w.Int([]int{}...)
		w.Text([]string(nil)...)
	}
	w.Int(5)
	w.Int()
	w.Text()
	if w.String() != "5," {
		t.Errorf("%q", w.String())
	}
}

func TestWrittenOut(t *testing.T) {
	for _, c := range []struct {
		list []thing
		want string
	}{
		{[]thing{number(5), number(-1), text("ab")}, "5,-1,2,ab"},
		{[]thing{number(0)}, "0,"},
		{[]thing{number(0), number(0)}, "0,0,"},
		{[]thing{number(-1), number(9), number(10), number(99), number(100)}, "-1,9,10,99,100,"},
		{[]thing{number(-9), number(-10), number(-99), number(-100)}, "-9,-10,-99,-100,"},
		{[]thing{number(math.MaxInt), number(math.MinInt)}, "9223372036854775807,-9223372036854775808,"},
		{[]thing{text("")}, "0,"},
		{[]thing{text(""), text(""), number(3)}, "0,0,3,"},
		{[]thing{text("a,b"), text("-"), text(","), text("12,")}, "3,a,b1,-1,,3,12,"},
		{[]thing{text("nine byte"), text("ten bytes."), text("\x00\xff\n\"")}, "9,nine byte10,ten bytes.4,\x00\xff\n\""},
		{[]thing{text("ä€")}, "5,ä€"},
		{[]thing{labelOf(0, 0), labelOf(7, 65535), labelOf(3, 16)}, "0,0,7,65535,3,16,"},
		{[]thing{labelOf(8, 1), labelOf(-1, 32768), labelOf(math.MinInt, 2)}, "8,1,-1,32768,-9223372036854775808,2,"},
		{[]thing{text("x"), labelOf(1, 2), number(-3), text("y")}, "1,x1,2,-3,1,y"},
	} {
		var w Writer
		for _, g := range c.list {
			g.write(&w)
		}
		if w.String() != c.want {
			t.Errorf("%q, not %q", w.String(), c.want)
		}
	}
}

func TestSeveralInACall(t *testing.T) {
	numbers := edges()
	texts := []string{"", "a", ",", "1,", "-1,2,", strings.Repeat("z", 100), ""}
	var atOnce, oneByOne Writer
	want := ""
	atOnce.Int(numbers...)
	atOnce.Text(texts...)
	for _, n := range numbers {
		oneByOne.Int(n)
		want += number(n).plain()
	}
	for _, s := range texts {
		oneByOne.Text(s)
		want += text(s).plain()
	}
	if atOnce.String() != want || oneByOne.String() != want {
		t.Errorf("%q\n%q\n%q", atOnce.String(), oneByOne.String(), want)
	}
	var w Writer
	w.Int(1, 2, 3)
	w.Text("a", "", "bc")
	w.Int(-4)
	if w.String() != "1,2,3,1,a0,2,bc-4," {
		t.Errorf("%q", w.String())
	}
}

func TestWritersGoOn(t *testing.T) {
	var w Writer
	want := ""
	var told, wants []string
	for i := range 300 {
		g := []thing{number(i), text(strings.Repeat("t", i%7)), labelOf(i%8, i)}[i%3]
		g.write(&w)
		want += g.plain()
		told, wants = append(told, w.String()), append(wants, want)
		if w.String() != want {
			t.Fatalf("%q, not %q", w.String(), want)
		}
	}
	// What was told ahead of later writes is as it was.
	if !slices.Equal(told, wants) {
		t.Error("told anew")
	}
}

func TestListsThatAreHandedIn(t *testing.T) {
	numbers, texts := []int{1, 2, 3, 4, 5}, []string{"a", "b", "c", "d", "e"}
	var w Writer
	w.Int(numbers[:3]...)
	w.Text(texts[:3]...)
	if !slices.Equal(numbers, []int{1, 2, 3, 4, 5}) || !slices.Equal(texts, []string{"a", "b", "c", "d", "e"}) {
		t.Error(numbers, texts)
	}
	numbers[0], texts[0] = 9, "z"
	if w.String() != "1,2,3,1,a1,b1,c" {
		t.Errorf("%q", w.String())
	}
}

func TestWritersByThemselves(t *testing.T) {
	var a, b Writer
	a.Int(1)
	b.Text("b")
	a.Text("a")
	b.Int(2)
	if a.String() != "1,1,a" || b.String() != "1,b2," {
		t.Errorf("%q %q", a.String(), b.String())
	}
}

// What was told to a Writer, and not to its copy, isn't in the copy, however much room was left behind what both have.
func TestCopiesOfAWriter(t *testing.T) {
	for length := range 70 {
		ahead := text(strings.Repeat("s", length)).plain()
		var first Writer
		first.Text(strings.Repeat("s", length))
		second, third := first, first
		first.Int(1)
		second.Int(2)
		fourth := second
		fourth.Text("dd")
		second.Text("b")
		first.Text("a")
		was := first
		first = third
		first.Int(7)
		for i, c := range []struct {
			w    *Writer
			want string
		}{{&first, "7,"}, {&second, "2,1,b"}, {&third, ""}, {&fourth, "2,2,dd"}, {&was, "1,1,a"}} {
			if c.w.String() != ahead+c.want {
				t.Errorf("%d: %q, not %q", i, c.w.String(), ahead+c.want)
			}
		}
	}
	var none Writer
	some := none
	some.Int(1)
	if none.String() != "" || some.String() != "1," {
		t.Errorf("%q %q", none.String(), some.String())
	}
}

func TestReadOneBehindTheOther(t *testing.T) {
	r := NewReader("5,-1,2,ab7,65535,0,0,9,")
	if r.Int(0, 9) != 5 || r.Int(-9, 9) != -1 || r.Text(2) != "ab" || r.Label() != (api.Label{Level: 7, Set: 65535}) || r.Text(9) != "" || r.Int(0, 0) != 0 {
		t.Error("read")
	}
	if !r.Ok() || r.Done() {
		t.Error(r.Ok(), r.Done())
	}
	if r.Int(9, 9) != 9 || !r.Ok() || !r.Done() {
		t.Error(r.Ok(), r.Done())
	}
	// All is taken: what is read on is wrong, and it isn't done any more.
	if r.Int(0, 9) != 0 || r.Ok() || r.Done() {
		t.Error(r.Ok(), r.Done())
	}
}

func TestNoBytes(t *testing.T) {
	r := NewReader("")
	if !r.Ok() || !r.Done() {
		t.Error(r.Ok(), r.Done())
	}
	for _, asked := range []step{{aNumber, math.MinInt, math.MaxInt}, {aNumber, 0, 0}, {aText, 0, 0}, {aText, 0, math.MaxInt}, {kind: aLabel}} {
		refuses(t, "", asked)
	}
}

func TestNumbersFromTo(t *testing.T) {
	for _, n := range edges() {
		s := number(n).plain()
		takes(t, s, step{aNumber, n, n}, number(n))
		takes(t, s, step{aNumber, math.MinInt, math.MaxInt}, number(n))
		takes(t, s, step{aNumber, math.MinInt, n}, number(n))
		takes(t, s, step{aNumber, n, math.MaxInt}, number(n))
		if n > math.MinInt {
			takes(t, s, step{aNumber, n - 1, n}, number(n))
			refuses(t, s, step{aNumber, math.MinInt, n - 1})
			refuses(t, s, step{aNumber, n - 1, n - 1})
			refuses(t, s, step{aNumber, n, n - 1})
		}
		if n < math.MaxInt {
			takes(t, s, step{aNumber, n, n + 1}, number(n))
			refuses(t, s, step{aNumber, n + 1, math.MaxInt})
			refuses(t, s, step{aNumber, n + 1, n + 1})
			refuses(t, s, step{aNumber, n + 1, n})
		}
		if -1 < n && n < math.MaxInt {
			refuses(t, s, step{aNumber, n + 1, -1})
			refuses(t, s, step{aNumber, math.MaxInt, math.MinInt})
		}
	}
	for _, c := range [][3]int{{4, 5, 9}, {10, 5, 9}, {-6, -5, 5}, {6, -5, 5}, {5, 9, 5}, {9, 9, 5}, {7, 9, 5}, {0, 1, 0}, {1, 1, 0}, {0, 1, -1}} {
		refuses(t, number(c[0]).plain(), step{aNumber, c[1], c[2]})
	}
}

// notNumbers are texts that begin with no number's text that is an int.
func notNumbers() []string {
	return []string{
		"5", "-5", "0", "-", "+", "12345", ",", "-,", "+,", "--,", " ,", ",5,", "\x00,",
		"00,", "01,", "05,", "007,", "000,", "-0,", "-00,", "-01,", "-05,", "+0,", "+5,", "+-5,", "-+5,", "--5,", "5-,", "5+,", "5-5,",
		" 5,", "5 ,", "5 5,", "\t5,", "\n5,", "5\n,", "5\x00,", "\x005,", "- 5,", "-5 ,", "0 ,",
		"a,", "5a,", "a5,", "0x5,", "0b1,", "0o7,", "1_0,", "1e1,", "1.0,", "5.,", ".5,", "NaN,", "Inf,", "٣,", "５,", "²,", "5;", "5;6,", "5.6,", "/,", ":,", "1:,", "1/,",
		"9223372036854775808,", "-9223372036854775809,", "9223372036854775810,", "-9223372036854775818,", "10000000000000000000,", "-10000000000000000000,",
		"18446744073709551615,", "18446744073709551616,", "18446744073709551617,", "-18446744073709551616,", "-18446744073709551615,", "18446744073709551621,",
		"36893488147419103233,", "99999999999999999999999,", "-99999999999999999999999,", "1" + strings.Repeat("0", 64) + ",", strings.Repeat("9", 1000) + ",", strings.Repeat("0", 1000) + "5,", strings.Repeat("5", 1000),
	}
}

func TestWhatIsNoNumber(t *testing.T) {
	for _, s := range notNumbers() {
		refuses(t, s, step{aNumber, math.MinInt, math.MaxInt})
		refuses(t, s, step{aNumber, 0, 0})
		refuses(t, s, step{aNumber, -5, 5})
		// Nor is it a text's length, or either of a label's numbers.
		refuses(t, s, step{aText, 0, math.MaxInt})
		refuses(t, s, step{aText, 0, 5})
		refuses(t, s, step{kind: aLabel})
		refuses(t, "7,"+s, step{kind: aLabel})
	}
}

// All single bytes that stand in the stead of one of a number's text, or between them.
func TestOneByteMore(t *testing.T) {
	all := step{aNumber, math.MinInt, math.MaxInt}
	for _, s := range []string{"0,", "7,", "10,", "-1,", "-90,", "655,"} {
		for c := range 256 {
			for at := range s {
				for _, changed := range []string{s[:at] + string([]byte{byte(c)}) + s[at+1:], s[:at] + string([]byte{byte(c)}) + s[at:], s[:at] + s[at+1:]} {
					p := plainReader{s: changed}
					want := p.take(all)
					r := NewReader(changed)
					if got := all.take(r); got != want || r.Ok() == p.wrong || r.Done() != (!p.wrong && p.s == "") {
						t.Errorf("%q: %v, not %v; %v %v", changed, got, want, r.Ok(), r.Done())
					}
				}
			}
		}
	}
}

func TestTextsOfAtMost(t *testing.T) {
	for _, length := range []int{0, 1, 2, 9, 10, 11, 32, 99, 100, 600, 1000, 20000} {
		s := strings.Repeat("x,1-", length/4+1)[:length]
		laid := text(s).plain()
		for _, most := range []int{length, length + 1, length + 9, 2*length + 1, 1 << 32, math.MaxInt} {
			takes(t, laid, step{aText, 0, most}, text(s))
		}
		for _, most := range []int{length - 1, 0, -1, -length, -length - 1, -1 << 32, math.MinInt} {
			if most < length {
				refusesText(t, laid, most)
			}
		}
	}
	takes(t, "0,", step{aText, 0, 0}, text(""))
	refusesText(t, "0,", -1)
	refusesText(t, "0,", math.MinInt)
	refusesText(t, "1,a", 0)
	refusesText(t, "-1,a", 5)
	refusesText(t, "-1,a", -1)
	refusesText(t, "-1,", math.MinInt)
	refusesText(t, "-2,ab", math.MaxInt)
}

// refusesText asks that a text in front is wrong; more bytes may stand behind it.
func refusesText(t *testing.T, s string, most int) {
	t.Helper()
	for _, behind := range []string{"", "5,2,ab"} {
		r := NewReader(s + behind)
		if got := r.Text(most); got != "" || r.Ok() || r.Done() {
			t.Errorf("%.30q, at most %d: %.30q %v %v", s+behind, most, got, r.Ok(), r.Done())
		}
		stopped(t, r, s+behind)
	}
}

func TestTextsOfAnyBytes(t *testing.T) {
	for c := range 256 {
		one := string([]byte{byte(c)})
		for _, s := range []string{one, one + one, "a" + one, one + ",", "-" + one + "1,"} {
			takes(t, text(s).plain(), text(s).just(), text(s))
		}
	}
	takes(t, "5,ä€", step{aText, 0, 5}, text("ä€"))
	takes(t, "3,,,,", step{aText, 0, 3}, text(",,,"))
	takes(t, "3,3,a", step{aText, 0, 3}, text("3,a"))
	takes(t, "2,-1", step{aText, 0, 3}, text("-1"))
}

func TestFewerBytesThanAreTold(t *testing.T) {
	for length := 1; length <= 120; length++ {
		s := text(strings.Repeat("q", length)).plain()
		for cut := range s {
			r := NewReader(s[:cut])
			if got := r.Text(length); got != "" || r.Ok() || r.Done() {
				t.Fatalf("%q: %q %v %v", s[:cut], got, r.Ok(), r.Done())
			}
			stopped(t, r, s[:cut])
		}
	}
	for _, s := range []string{"1,", "3,ab", "4,5,6", "2,1", "9223372036854775807,ab", "9223372036854775806,", "4294967296,", "4294967298,ab", "2147483648,ab"} {
		r := NewReader(s)
		if got := r.Text(math.MaxInt); got != "" || r.Ok() || r.Done() {
			t.Errorf("%q: %q %v %v", s, got, r.Ok(), r.Done())
		}
		stopped(t, r, s)
	}
}

func TestLabelsFromTo(t *testing.T) {
	for _, level := range []int{math.MinInt, -8, -7, -1, 0, 1, 6, 7, 8, 9, 10, 70, 65535, 1 << 32, 1<<32 + 7, math.MaxInt} {
		for _, set := range []int{math.MinInt, -65536, -65535, -1, 0, 1, 7, 8, 32767, 32768, 65534, 65535, 65536, 65537, 131071, 131072, 1 << 32, math.MaxInt} {
			s := fmt.Sprintf("%d,%d,", level, set)
			if 0 <= level && level <= 7 && 0 <= set && set <= 65535 {
				takes(t, s, step{kind: aLabel}, labelOf(level, set))
			} else {
				refuses(t, s, step{kind: aLabel})
			}
		}
	}
	for _, s := range []string{"7,1", "0,0", "7", "7,,", "7,,1,", ",1,", "5:0003", "5:0003,", "1,x", "1,-0,", "01,1,", "1,01,"} {
		refuses(t, s, step{kind: aLabel})
	}
	r := NewReader("7,")
	if got := r.Label(); got != (api.Label{}) || r.Ok() || r.Done() {
		t.Error(got, r.Ok(), r.Done())
	}
	stopped(t, r, "7,")
}

// A thing that is wrong, of each kind and for each reason; then right ones, each of which would be taken by itself.
func TestStoppedForGood(t *testing.T) {
	for _, c := range []struct {
		s     string
		asked step
	}{
		{"x,", step{aNumber, 0, 9}}, {"05,", step{aNumber, 0, 9}}, {",", step{aNumber, 0, 9}}, {"10,", step{aNumber, 0, 9}}, {"-1,", step{aNumber, 0, 9}}, {"5,", step{aNumber, 9, 0}},
		{"9223372036854775808,", step{aNumber, 0, math.MaxInt}},
		{"x,", step{aText, 0, 9}}, {"-1,", step{aText, 0, 9}}, {"10,", step{aText, 0, 9}}, {"1,", step{aText, 0, 0}}, {"0,", step{aText, 0, -1}}, {"20,", step{aText, 0, 20}}, {"02,", step{aText, 0, 20}},
		{"x,0,", step{kind: aLabel}}, {"8,0,", step{kind: aLabel}}, {"-1,0,", step{kind: aLabel}}, {"7,65536,", step{kind: aLabel}}, {"7,-1,", step{kind: aLabel}}, {"7,x,", step{kind: aLabel}},
	} {
		for _, ahead := range []string{"", "3,1,a2,5,"} {
			s := ahead + c.s + "1,2,3,4,1,z5,6,"
			r := NewReader(s)
			if ahead != "" && (r.Int(3, 3) != 3 || r.Text(1) != "a" || r.Label() != (api.Label{Level: 2, Set: 5})) {
				t.Errorf("%q: ahead of it", s)
			}
			if !r.Ok() || r.Done() {
				t.Errorf("%q: %v %v", s, r.Ok(), r.Done())
			}
			if got := c.asked.take(r); got != (thing{kind: c.asked.kind}) || r.Ok() || r.Done() {
				t.Errorf("%q %v: %v %v %v", s, c.asked, got, r.Ok(), r.Done())
			}
			stopped(t, r, s)
		}
	}
}

func TestReadersByThemselves(t *testing.T) {
	const s = "1,2,ab3,"
	a, b := NewReader(s), NewReader(s)
	if a.Int(0, 9) != 1 || b.Int(2, 9) != 0 || a.Text(2) != "ab" {
		t.Error("read")
	}
	if !a.Ok() || b.Ok() {
		t.Error(a.Ok(), b.Ok())
	}
	c := *a
	if c.Int(3, 3) != 3 || !c.Done() || a.Done() {
		t.Error(c.Done(), a.Done())
	}
	if a.Int(4, 4) != 0 || a.Ok() || !c.Done() {
		t.Error(a.Ok(), c.Done())
	}
}

// What is answered is new memory: not even a text, which nobody can write into, is a piece of what was handed in.
func TestTextsAreNewMemory(t *testing.T) {
	s := strings.Clone("3,abc40," + strings.Repeat("d", 40))
	first := uintptr(unsafe.Pointer(unsafe.StringData(s)))
	r := NewReader(s)
	for _, length := range []int{3, 40} {
		got := r.Text(length)
		at := uintptr(unsafe.Pointer(unsafe.StringData(got)))
		if len(got) != length || first <= at && at < first+uintptr(len(s)) {
			t.Errorf("%q", got)
		}
	}
}

func TestNilWriterAndReader(t *testing.T) {
	var w *Writer
	for range 2 {
		w.Int()
		w.Int(1, 2)
		w.Text()
		w.Text("", "ab")
		w.Label(api.Label{Level: 7, Set: 1})
		w.Label(api.Label{Level: -1})
		if w.String() != "" {
			t.Errorf("%q", w.String())
		}
	}
	var r *Reader
	if r.Ok() || r.Done() {
		t.Error(r.Ok(), r.Done())
	}
	stopped(t, r, "nil")
	for _, lo := range edges() {
		if r.Int(lo, lo) != 0 || r.Int(lo, math.MaxInt) != 0 || r.Text(lo) != "" {
			t.Error(lo)
		}
	}
}

// anyBytes is a text like what is written, or of such bytes in any order, or of any bytes.
func anyBytes(r *rand.Rand) string {
	const usual = "0123456789,,,,,,-+ ab"
	switch r.Intn(4) {
	case 0:
		b := make([]byte, r.Intn(30))
		for i := range b {
			b[i] = byte(r.Intn(256))
		}
		return string(b)
	case 1:
		b := make([]byte, r.Intn(40))
		for i := range b {
			b[i] = usual[r.Intn(len(usual))]
		}
		return string(b)
	}
	s := ""
	for range r.Intn(8) {
		s += anyThing(r).plain()
	}
	if r.Intn(2) == 0 && s != "" {
		at := r.Intn(len(s))
		s = s[:at] + string(usual[r.Intn(len(usual))]) + s[at+r.Intn(2):]
	}
	return s
}

func anyNumber(r *rand.Rand) int {
	if r.Intn(2) == 0 {
		return r.Intn(21) - 10
	}
	n := int(r.Uint64()) >> r.Intn(64)
	if r.Intn(4) == 0 {
		list := edges()
		n = list[r.Intn(len(list))]
	}
	return n
}

func anyThing(r *rand.Rand) thing {
	switch r.Intn(3) {
	case 0:
		return number(anyNumber(r))
	case 1:
		b := make([]byte, []int{0, 1, r.Intn(12), r.Intn(120)}[r.Intn(4)])
		for i := range b {
			b[i] = "0123456789,,-ab\x00\xff"[r.Intn(17)]
		}
		return text(string(b))
	}
	return labelOf(r.Intn(8), r.Intn(1<<r.Intn(17)))
}

func anyStep(r *rand.Rand) step {
	switch r.Intn(4) {
	case 0:
		return step{aNumber, math.MinInt, math.MaxInt}
	case 1:
		return step{aNumber, anyNumber(r), anyNumber(r)}
	case 2:
		return step{aText, 0, anyNumber(r)}
	}
	return step{kind: aLabel}
}

func TestAnyBytes(t *testing.T) {
	random := rand.New(rand.NewSource(1))
	right, wrong := 0, 0
	for range 200000 {
		s := anyBytes(random)
		r, p := NewReader(s), plainReader{s: s}
		for range 1 + random.Intn(10) {
			asked := anyStep(random)
			got, want := asked.take(r), p.take(asked)
			if got != want || r.Ok() == p.wrong || r.Done() != (!p.wrong && p.s == "") {
				t.Fatalf("%q %v: %v, not %v; %v %v", s, asked, got, want, r.Ok(), r.Done())
			}
			if !p.wrong {
				right++
				continue
			}
			wrong++
			if random.Intn(2) == 0 {
				break
			}
		}
	}
	if right < 20000 || wrong < 20000 {
		t.Error("hardly held against each other:", right, wrong)
	}
}

// P6.2

func TestAllLabelsAgain(t *testing.T) {
	for level := range 8 {
		var w Writer
		for set := range 65536 {
			w.Label(api.Label{Level: level, Set: uint16(set)})
		}
		r := NewReader(w.String())
		for set := range 65536 {
			if got := r.Label(); got != (api.Label{Level: level, Set: uint16(set)}) {
				t.Fatal(level, set, got)
			}
		}
		if !r.Done() {
			t.Error(level, r.Ok())
		}
	}
}

func TestNumbersAgain(t *testing.T) {
	list := edges()
	for n := -12000; n <= 12000; n++ {
		list = append(list, n)
	}
	var w Writer
	w.Int(list...)
	r := NewReader(w.String())
	for _, n := range list {
		if got := r.Int(n, n); got != n || !r.Ok() {
			t.Fatal(n, got)
		}
	}
	if !r.Done() {
		t.Error("bytes are left")
	}
}

func TestAnyThingsAgain(t *testing.T) {
	random := rand.New(rand.NewSource(2))
	for range 5000 {
		var list []thing
		var w Writer
		want := ""
		for range random.Intn(20) {
			g := anyThing(random)
			list = append(list, g)
			g.write(&w)
			want += g.plain()
		}
		s := w.String()
		if s != want {
			t.Fatalf("%q, not %q", s, want)
		}
		r := NewReader(s)
		for i, g := range list {
			if r.Done() {
				t.Fatalf("%q: done ahead of %d", s, i)
			}
			if got := g.just().take(r); got != g || !r.Ok() {
				t.Fatalf("%q: %v, not %v", s, got, g)
			}
		}
		if !r.Done() {
			t.Fatalf("%q: bytes are left", s)
		}
	}
}

// Of what is cut off anywhere, all that stands there whole is read as it was, and nothing else is.
func TestCutOff(t *testing.T) {
	random := rand.New(rand.NewSource(3))
	for range 100 {
		var list []thing
		var ends []int
		s := ""
		for range 1 + random.Intn(6) {
			g := anyThing(random)
			s += g.plain()
			list, ends = append(list, g), append(ends, len(s))
		}
		for cut := range len(s) + 1 {
			r := NewReader(s[:cut])
			for i, g := range list {
				whole := ends[i] <= cut
				want := thing{kind: g.kind}
				if whole {
					want = g
				}
				if got := g.just().take(r); got != want || r.Ok() != whole || r.Done() != (ends[i] == cut) {
					t.Fatalf("%q: %v, not %v; %v %v", s[:cut], got, want, r.Ok(), r.Done())
				}
			}
		}
	}
}

func TestTextsWithinTexts(t *testing.T) {
	var inner, outer Writer
	inner.Int(5, -1)
	inner.Text("ab", "")
	inner.Label(api.Label{Level: 3, Set: 9})
	outer.Text(inner.String(), "", inner.String())
	outer.Int(-7)
	r := NewReader(outer.String())
	if r.Text(100) != inner.String() || r.Text(0) != "" || r.Text(100) != "5,-1,2,ab0,3,9," || r.Int(-7, -7) != -7 || !r.Done() {
		t.Errorf("%q", outer.String())
	}
}

// So much would take far too long, if each call went through all that was written, or is left.
func TestMany(t *testing.T) {
	const many = 1 << 19
	long := strings.Repeat("l", 1<<22)
	var w Writer
	for i := range many {
		w.Int(i)
		w.Text("t")
	}
	w.Text(long)
	r := NewReader(w.String())
	for i := range many {
		if r.Int(0, many) != i || r.Text(1) != "t" {
			t.Fatal(i)
		}
	}
	if r.Text(1<<22) != long || !r.Done() {
		t.Error(r.Ok(), r.Done())
	}
	// A number without an end.
	for _, s := range []string{strings.Repeat("9", 1<<22), strings.Repeat("0", 1<<22), strings.Repeat("-", 1<<22), long} {
		for _, end := range []string{"", ","} {
			r := NewReader(s + end)
			if r.Int(math.MinInt, math.MaxInt) != 0 || r.Ok() || r.Done() {
				t.Error(s[:1], r.Ok(), r.Done())
			}
		}
	}
}
