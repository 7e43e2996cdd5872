package label

import (
	"fmt"
	"math"
	"strings"
	"testing"

	"lockage/api"
)

func of(level int, set uint16) api.Label { return api.Label{Level: level, Set: set} }

// sample holds labels that may be and ones that may not: the edges of levels and of Sets, and Sets that only overlap.
func sample() []api.Label {
	var list []api.Label
	for _, level := range []int{math.MinInt, -1, 0, 1, 6, 7, 8, math.MaxInt} {
		for _, set := range []uint16{0, 1, 2, 3, 6, 0x8000, 0x8001, 0xfffe, 0xffff} {
			list = append(list, api.Label{Level: level, Set: set})
		}
	}
	return list
}

func everyPair(f func(a, b api.Label)) {
	list := sample()
	for _, a := range list {
		for _, b := range list {
			f(a, b)
		}
	}
}

func everyTriple(f func(a, b, c api.Label)) {
	list := sample()
	everyPair(func(a, b api.Label) {
		for _, c := range list {
			f(a, b, c)
		}
	})
}

func has(set uint16, bit int) bool { return set>>bit&1 == 1 }

// setOf is told bit by bit, so that it doesn't lean on the operators that the package takes.
func setOf(in func(bit int) bool) uint16 {
	var set uint16
	for bit := 0; bit < 16; bit++ {
		if in(bit) {
			set += 1 << bit
		}
	}
	return set
}

func below(a, b api.Label) bool {
	for bit := 0; bit < 16; bit++ {
		if has(a.Set, bit) && !has(b.Set, bit) {
			return false
		}
	}
	return !(a.Level > b.Level)
}

// P1.1

func TestRight(t *testing.T) {
	want := map[int]bool{math.MinInt: false, -8: false, -1: false, 0: true, 1: true, 2: true, 3: true, 4: true, 5: true, 6: true, 7: true, 8: false, 9: false, 15: false, 16: false, 256: false, 1 << 32: false, math.MaxInt: false}
	for level, right := range want {
		for _, set := range []uint16{0, 1, 0x8000, 0xffff} {
			if l := (api.Label{Level: level, Set: set}); Right(l) != right {
				t.Error(l, Right(l))
			}
		}
	}
}

func TestWrittenOut(t *testing.T) {
	for _, c := range []struct{ a, b, join, meet, off api.Label }{
		{of(2, 1), of(1, 2), of(2, 3), of(1, 0), of(2, 1)},
		{of(5, 3), of(1, 1), of(5, 3), of(1, 1), of(5, 2)},
		{of(1, 1), of(5, 3), of(5, 3), of(1, 1), of(0, 0)},
		{of(3, 3), of(3, 1), of(3, 3), of(3, 1), of(0, 2)},
		{of(4, 1), of(3, 1), of(4, 1), of(3, 1), of(4, 0)},
		{of(7, 0xffff), of(0, 0), of(7, 0xffff), of(0, 0), of(7, 0xffff)},
		{of(0, 0), of(7, 0xffff), of(7, 0xffff), of(0, 0), of(0, 0)},
		{of(7, 0), of(0, 0xffff), of(7, 0xffff), of(0, 0), of(7, 0)},
		{of(0, 0), of(0, 0), of(0, 0), of(0, 0), of(0, 0)},
		{of(9, 1), of(-3, 1), of(9, 1), of(-3, 1), of(9, 0)},
		{of(-1, 2), of(-5, 0), of(-1, 2), of(-5, 0), of(-1, 2)},
	} {
		if got := Join(c.a, c.b); got != c.join {
			t.Error("join", c.a, c.b, got)
		}
		if got := Meet(c.a, c.b); got != c.meet {
			t.Error("meet", c.a, c.b, got)
		}
		if got := Off(c.a, c.b); got != c.off {
			t.Error("off", c.a, c.b, got)
		}
	}
}

func TestOrderWrittenOut(t *testing.T) {
	for _, c := range []struct {
		a, b      api.Label
		leq, less bool
	}{
		{of(0, 0), of(7, 0xffff), true, true},
		{of(7, 0xffff), of(0, 0), false, false},
		{of(3, 5), of(3, 5), true, false},
		{of(3, 1), of(3, 5), true, true},
		{of(2, 5), of(3, 5), true, true},
		{of(3, 5), of(2, 5), false, false},
		{of(3, 5), of(3, 4), false, false},
		{of(1, 1), of(1, 2), false, false},
		{of(1, 2), of(1, 1), false, false},
		{of(1, 4), of(6, 3), false, false},
		{of(6, 3), of(1, 4), false, false},
		{of(2, 0), of(1, 7), false, false},
		{of(-1, 0), of(8, 0), true, true},
		{of(8, 0), of(8, 0), true, false},
	} {
		if Leq(c.a, c.b) != c.leq || Less(c.a, c.b) != c.less {
			t.Error(c.a, c.b, Leq(c.a, c.b), Less(c.a, c.b))
		}
		if Over(c.b, c.a) != c.leq {
			t.Error("over", c.b, c.a)
		}
	}
}

func TestAnyLabels(t *testing.T) {
	everyPair(func(a, b api.Label) {
		join := api.Label{Level: a.Level, Set: setOf(func(bit int) bool { return has(a.Set, bit) || has(b.Set, bit) })}
		meet := api.Label{Level: b.Level, Set: setOf(func(bit int) bool { return has(a.Set, bit) && has(b.Set, bit) })}
		off := api.Label{Level: a.Level, Set: setOf(func(bit int) bool { return has(a.Set, bit) && !has(b.Set, bit) })}
		if !(a.Level > b.Level) {
			join.Level, meet.Level, off.Level = b.Level, a.Level, 0
		}
		if Join(a, b) != join || Meet(a, b) != meet || Off(a, b) != off {
			t.Error(a, b, Join(a, b), Meet(a, b), Off(a, b))
		}
		if Leq(a, b) != below(a, b) || Less(a, b) != (below(a, b) && !below(b, a)) || Over(a, b) != below(b, a) {
			t.Error(a, b, Leq(a, b), Less(a, b), Over(a, b))
		}
	})
}

// P1.2

func TestEveryLabelThroughItsText(t *testing.T) {
	for level := 0; level <= 7; level++ {
		for set := 0; set <= 0xffff; set++ {
			l := api.Label{Level: level, Set: uint16(set)}
			s := Text(l)
			if want := fmt.Sprintf("%d:%04x", level, set); s != want {
				t.Fatal(l, s, want)
			}
			if back, e := Parse(s); back != l || e != api.OK {
				t.Fatal(s, back, e)
			}
		}
	}
}

func TestTextOfLabelsThatMayNotBe(t *testing.T) {
	for _, level := range []int{math.MinInt, -256, -1, 8, 9, 10, 15, 16, 256, 1 << 32, math.MaxInt} {
		for _, set := range []uint16{0, 0xffff} {
			if s := Text(api.Label{Level: level, Set: set}); s != "" {
				t.Error(level, set, s)
			}
		}
	}
}

func refused(t *testing.T, s string) {
	t.Helper()
	if l, e := Parse(s); l != (api.Label{}) || e != api.ErrForm {
		t.Errorf("%q: %v %v", s, l, e)
	}
}

func TestTextsOfNoLabel(t *testing.T) {
	for _, s := range []string{
		"", "7", "7:", "7:f", "7:fff", ":ffff", "7:fffff", "07:ffff", "7::ffff", "7:ffff\x00", "7:ffff\n", " 7:ffff", "7:ffff ",
		"8:0000", "9:0000", "a:0000", "f:0000", "-:0000", "-1:000", "+1:000", "+:0000", "/:0000", " :0000",
		"7:FFFF", "7:ffFf", "3:00A1", "3:00g1", "3:00`1", "3:00/1", "3:00:1", "3:00@1", "0:+001", "0:-001", "0:0_01", "0:0x01", "0: 001", "0:001 ",
		"0;0000", "0 0000", "0.0000", "0/0000", "000000", "0\x000000", "0\xff0000", "\uff10:0000", "0:00\u00e9",
		strings.Repeat("0:0000", 1000),
	} {
		refused(t, s)
	}
}

func TestEveryByteAtEveryPlace(t *testing.T) {
	for _, s := range []string{"0:0000", "7:ffff", "5:3a9c"} {
		for place := range len(s) {
			kept := 0
			for c := range 256 {
				other := []byte(s)
				other[place] = byte(c)
				l, e := Parse(string(other))
				if e == api.OK && Text(l) == string(other) {
					kept++
				} else {
					refused(t, string(other))
				}
			}
			if want := [...]int{8, 1, 16, 16, 16, 16}[place]; kept != want {
				t.Error(s, place, kept)
			}
		}
	}
}

func TestEveryLengthButOne(t *testing.T) {
	for n := range 20 {
		if s := ("3:" + strings.Repeat("0", 18))[:n]; n != 6 {
			refused(t, s)
		}
	}
}

// P1.3

func TestLeqIsAnOrder(t *testing.T) {
	everyTriple(func(a, b, c api.Label) {
		if !Leq(a, a) {
			t.Fatal("reflexive", a)
		}
		if Leq(a, b) && Leq(b, a) && a != b {
			t.Fatal("antisymmetric", a, b)
		}
		if Leq(a, b) && Leq(b, c) && !Leq(a, c) {
			t.Fatal("transitive", a, b, c)
		}
		if Less(a, b) != (Leq(a, b) && a != b) {
			t.Fatal("less", a, b)
		}
	})
}

func TestJoinAndMeetAreBounds(t *testing.T) {
	everyTriple(func(a, b, c api.Label) {
		join, meet := Join(a, b), Meet(a, b)
		if !Leq(a, join) || !Leq(b, join) || !Leq(meet, a) || !Leq(meet, b) {
			t.Fatal("no bound", a, b)
		}
		if Leq(a, c) && Leq(b, c) && !Leq(join, c) {
			t.Fatal("not the least one", a, b, c)
		}
		if Leq(c, a) && Leq(c, b) && !Leq(c, meet) {
			t.Fatal("not the greatest one", a, b, c)
		}
	})
}

func TestNothingIsTakenOffOnTheWayUp(t *testing.T) {
	everyPair(func(a, b api.Label) {
		if Leq(a, b) && Off(a, b) != (api.Label{}) {
			t.Error(a, b, Off(a, b))
		}
		if off := Off(a, Join(a, b)); off != (api.Label{}) {
			t.Error(a, b, off)
		}
	})
}
