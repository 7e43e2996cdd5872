package sector

import (
	"encoding/binary"
	"math"
	"math/rand"
	"slices"
	"strings"
	"testing"

	"lockage/api"
)

// bytesOf is n bytes, none of them a nought, no two next to each other the same, so that one that slips or is cut off is felt.
func bytesOf(n int) string {
	b := make([]byte, n)
	for i := range b {
		b[i] = byte(1 + i%251)
	}
	return string(b)
}

// plain is a piece's sector as the chapter tells it, one part behind the other; of any numbers, those that may not be too.
func plain(p Piece) string {
	b := binary.BigEndian.AppendUint64(nil, p.Stamp)
	b = binary.BigEndian.AppendUint32(b, uint32(p.Gen))
	for _, n := range []int{p.No, p.Index, p.Total} {
		b = binary.BigEndian.AppendUint16(b, uint16(n))
	}
	b = append(b, byte(len(p.Data)))
	b = append(b, p.Data...)
	b = append(b, make([]byte, max(0, 37-len(p.Data)))...)
	return string(binary.BigEndian.AppendUint64(b, p.Stamp))
}

// plainRead asks for each part by itself, whether it may be.
func plainRead(s string) (Piece, bool) {
	if len(s) != 64 || s[:8] != s[56:] || s[18] > 37 {
		return Piece{}, false
	}
	b := []byte(s)
	p := Piece{
		Stamp: binary.BigEndian.Uint64(b),
		Gen:   int(binary.BigEndian.Uint32(b[8:])),
		No:    int(binary.BigEndian.Uint16(b[12:])),
		Index: int(binary.BigEndian.Uint16(b[14:])),
		Total: int(binary.BigEndian.Uint16(b[16:])),
		Data:  s[19 : 19+s[18]],
	}
	if p.Gen >= 1<<31 || p.Index >= p.Total || strings.Trim(s[19+s[18]:56], "\x00") != "" {
		return Piece{}, false
	}
	return p, true
}

// plainLay cuts a text as the chapter tells it.
func plainLay(s string, stamp uint64, gen, no int) []string {
	var cuts []string
	for len(s) > 37 {
		cuts, s = append(cuts, s[:37]), s[37:]
	}
	cuts = append(cuts, s)
	var list []string
	for i, data := range cuts {
		list = append(list, plain(Piece{stamp, gen, no, i, len(cuts), data}))
	}
	return list
}

// plainNext tries each number of sectors from at on, and holds them against the sectors of the text that they would have.
func plainNext(list []string, at, end, gen, no int) (string, int, bool) {
	text := ""
	for next := at + 1; next <= end; next++ {
		p, ok := plainRead(list[next-1])
		if !ok {
			break
		}
		text += p.Data
		if slices.Equal(list[at:next], plainLay(text, p.Stamp, gen, no)) {
			return text, next, true
		}
	}
	return "", at, false
}

func prints(t *testing.T, p Piece, want string) {
	t.Helper()
	if s, e := Print(p); s != want || e != api.OK {
		t.Errorf("%v: %x %v, not %x", p, s, e, want)
	}
}

func reads(t *testing.T, s string, want Piece) {
	t.Helper()
	if p, e := Read(s); p != want || e != api.OK {
		t.Errorf("%x: %v %v, not %v", s, p, e, want)
	}
}

func refused(t *testing.T, s string) {
	t.Helper()
	if p, e := Read(s); p != (Piece{}) || e != api.ErrForm {
		t.Errorf("%x: %v %v", s, p, e)
	}
}

// readsAs holds any text against the plain way of reading one, and tells whether it is a piece's.
func readsAs(t *testing.T, s string) bool {
	t.Helper()
	p, ok := plainRead(s)
	if ok {
		reads(t, s, p)
	} else {
		refused(t, s)
	}
	return ok
}

// from is a read of a list whose first sector stands at first; it fails the test, if it is asked of a place that isn't from at up to end - 1.
func from(t *testing.T, list []string, first, at, end int) func(int) string {
	return func(place int) string {
		t.Helper()
		if place < at || place >= end {
			t.Errorf("asked of %d, which isn't from %d up to %d", place, at, end-1)
		}
		if i := place - first; 0 <= i && i < len(list) {
			return list[i]
		}
		return ""
	}
}

// stands asks for a text in a list whose first sector stands at 0.
func stands(t *testing.T, list []string, at, end, gen, no int, want string, behind int) {
	t.Helper()
	if s, next, ok := Next(from(t, list, 0, at, end), at, end, gen, no); s != want || next != behind || !ok {
		t.Errorf("%d to %d: %q %d %v, not %q %d", at, end, s, next, ok, want, behind)
	}
}

func none(t *testing.T, list []string, at, end, gen, no int) {
	t.Helper()
	if s, next, ok := Next(from(t, list, 0, at, end), at, end, gen, no); s != "" || next != at || ok {
		t.Errorf("%d to %d: %q %d %v", at, end, s, next, ok)
	}
}

func laid(t *testing.T, s string, stamp uint64, gen, no int) []string {
	t.Helper()
	list, e := Lay(s, stamp, gen, no)
	if e != api.OK || len(list) == 0 {
		t.Fatal(len(s), stamp, gen, no, len(list), e)
	}
	return list
}

// a number, and whether it may be where it stands
type edge struct {
	n  int
	ok bool
}

func gens() []edge {
	return []edge{{math.MinInt, false}, {-1 << 32, false}, {-1 << 31, false}, {-1, false}, {0, true}, {1, true}, {255, true}, {256, true}, {1<<24 + 1, true}, {1<<31 - 1, true}, {1 << 31, false}, {1<<32 - 1, false}, {1 << 32, false}, {1<<32 + 1, false}, {math.MaxInt, false}}
}

func nos() []edge {
	return []edge{{math.MinInt, false}, {-1 << 16, false}, {-1, false}, {0, true}, {1, true}, {255, true}, {256, true}, {65535, true}, {65536, false}, {65537, false}, {1 << 32, false}, {math.MaxInt, false}}
}

func stamps() []uint64 {
	return []uint64{0, 1, 255, 256, 1 << 32, 0x0102030405060708, 1 << 63, math.MaxUint64}
}

// P4.1

// may holds a piece against what is wanted of it, in all three calls.
func may(t *testing.T, p Piece, ok bool) {
	t.Helper()
	if Right(p) != ok {
		t.Error(p, Right(p))
	}
	if ok {
		prints(t, p, plain(p))
		reads(t, plain(p), p)
		return
	}
	if s, e := Print(p); s != "" || e != api.ErrArg {
		t.Errorf("%v: %x %v", p, s, e)
	}
}

func TestGensAndNos(t *testing.T) {
	for _, gen := range gens() {
		for _, no := range nos() {
			for _, stamp := range stamps() {
				may(t, Piece{stamp, gen.n, no.n, 0, 1, "a"}, gen.ok && no.ok)
			}
		}
	}
}

func TestIndexAndTotal(t *testing.T) {
	for _, total := range []edge{{math.MinInt, false}, {-65536, false}, {-1, false}, {0, false}, {1, true}, {2, true}, {256, true}, {65534, true}, {65535, true}, {65536, false}, {65537, false}, {1 << 32, false}, {math.MaxInt, false}} {
		for _, index := range []int{math.MinInt, -65536, -2, -1, 0, 1, 2, 255, 256, 65533, 65534, 65535, 65536, 1 << 32, math.MaxInt} {
			may(t, Piece{7, 5, 6, index, total.n, "ab"}, total.ok && 0 <= index && index < total.n)
		}
		if total.ok {
			may(t, Piece{7, 5, 6, total.n - 1, total.n, "ab"}, true)
			may(t, Piece{7, 5, 6, total.n, total.n, "ab"}, false)
			may(t, Piece{7, 5, 6, -1, total.n, "ab"}, false)
		}
	}
}

func TestDataOfAllLengths(t *testing.T) {
	for n := range 300 {
		for _, data := range []string{bytesOf(n), strings.Repeat("\x00", n), strings.Repeat("\xff", n)} {
			may(t, Piece{1 << 40, 3, 2, 1, 4, data}, n <= 37)
		}
	}
	may(t, Piece{1, 1, 1, 0, 1, strings.Repeat("a", 1<<16)}, false)
}

func TestNothingOfAPiece(t *testing.T) {
	may(t, Piece{}, false)
	may(t, Piece{Total: 1}, true)
}

func TestASectorWrittenOut(t *testing.T) {
	p := Piece{0x0102030405060708, 0x090a0b0c, 0x0d0e, 0x0f10, 0x1112, "xyz"}
	s := "\x01\x02\x03\x04\x05\x06\x07\x08\x09\x0a\x0b\x0c\x0d\x0e\x0f\x10\x11\x12\x03xyz" + strings.Repeat("\x00", 34) + "\x01\x02\x03\x04\x05\x06\x07\x08"
	prints(t, p, s)
	reads(t, s, p)
	// The greatest of all: no part has room for more.
	p = Piece{math.MaxUint64, 1<<31 - 1, 65535, 65534, 65535, strings.Repeat("\xff", 37)}
	s = strings.Repeat("\xff", 8) + "\x7f\xff\xff\xff" + "\xff\xff" + "\xff\xfe" + "\xff\xff" + "\x25" + strings.Repeat("\xff", 45)
	prints(t, p, s)
	reads(t, s, p)
	// And the least.
	p = Piece{Total: 1}
	s = strings.Repeat("\x00", 17) + "\x01" + strings.Repeat("\x00", 46)
	prints(t, p, s)
	reads(t, s, p)
}

func TestTextsOfOtherLengths(t *testing.T) {
	// Of stamps that begin, or end, with noughts: what is cut off there is not made up for.
	for _, stamp := range append(stamps(), 9, 1<<62) {
		s := plain(Piece{stamp, 4, 5, 0, 1, bytesOf(37)})
		for n := range 64 {
			refused(t, s[:n])
			refused(t, s[64-n:])
		}
		for _, more := range []string{"\x00", "a", s, strings.Repeat("\x00", 64), strings.Repeat("a", 1<<16)} {
			refused(t, s+more)
			refused(t, more+s)
		}
	}
}

func TestEveryByteTurned(t *testing.T) {
	for _, p := range []Piece{
		{0x0102030405060708, 4, 5, 1, 3, "hi"},
		{0, 0, 0, 0, 1, ""},
		{math.MaxUint64, 1<<31 - 1, 65535, 65534, 65535, strings.Repeat("\xff", 37)},
		{1 << 32, 1, 0, 0, 1, bytesOf(37)},
		{1 << 32, 1, 0, 1, 2, bytesOf(36)},
	} {
		s := plain(p)
		for place := range 64 {
			for c := range 256 {
				turned := s[:place] + string([]byte{byte(c)}) + s[place+1:]
				ok := readsAs(t, turned)
				data := 19 <= place && place < 19+len(p.Data)
				switch {
				case turned == s, data:
					if !ok {
						t.Errorf("%v: %d %d: none", p, place, c)
					}
				case place < 8, place >= 19:
					// The first Stamp, the noughts, and the Stamp at the end.
					if ok {
						t.Errorf("%v: %d %d: some", p, place, c)
					}
				}
			}
		}
	}
}

func TestSectorsThatSayTooMuchData(t *testing.T) {
	for size := range 256 {
		// With noughts, and with bytes, behind what they say.
		for _, data := range []string{strings.Repeat("\x00", 37), bytesOf(37), bytesOf(5) + strings.Repeat("\x00", 32)} {
			s := plain(Piece{0x0102030405060708, 4, 5, 0, 1, data})
			s = s[:18] + string([]byte{byte(size)}) + s[19:]
			if ok := readsAs(t, s); size > 37 && ok || size == 37 && !ok {
				t.Error(size, ok)
			}
		}
	}
}

func TestSectorsOfNumbersThatMayNotBe(t *testing.T) {
	for _, p := range []Piece{
		{1, 1 << 31, 0, 0, 1, "a"},
		{1, 1<<31 + 4, 0, 0, 1, "a"},
		{1, 1<<32 - 1, 0, 0, 1, "a"},
		{1, 0, 0, 0, 0, "a"},
		{1, 0, 0, 1, 0, "a"},
		{1, 0, 0, 1, 1, "a"},
		{1, 0, 0, 2, 1, "a"},
		{1, 0, 0, 65535, 65535, "a"},
		{1, 0, 0, 65535, 0, "a"},
		{1, 0, 0, 256, 255, "a"},
	} {
		refused(t, plain(p))
	}
	for c := range 256 {
		refused(t, strings.Repeat(string([]byte{byte(c)}), 64))
	}
}

// edgePiece is one that may be, its numbers at the edges more often than not.
func edgePiece(r *rand.Rand) Piece {
	one := func(edges []edge) int {
		for {
			if e := edges[r.Intn(len(edges))]; e.ok {
				return e.n
			}
		}
	}
	totals := []int{1, 1, 2, 3, 255, 256, 257, 65534, 65535}
	p := Piece{Stamp: stamps()[r.Intn(8)], Gen: one(gens()), No: one(nos()), Total: totals[r.Intn(len(totals))]}
	p.Index = []int{0, p.Total - 1, r.Intn(p.Total)}[r.Intn(3)]
	b := make([]byte, []int{0, 1, 36, 37, r.Intn(38)}[r.Intn(5)])
	for i := range b {
		b[i] = byte(r.Intn(3) * 127)
	}
	p.Data = string(b)
	return p
}

func TestAnySectors(t *testing.T) {
	r := rand.New(rand.NewSource(1))
	some := 0
	for range 20000 {
		p := edgePiece(r)
		may(t, p, true)
		b := []byte(plain(p))
		for range 1 + r.Intn(3) {
			b[r.Intn(64)] = byte(r.Intn(256))
		}
		if readsAs(t, string(b)) {
			some++
		}
	}
	if some == 0 {
		t.Error("no turned one was a sector")
	}
}

// P4.2: Lay and Count

func TestLay(t *testing.T) {
	for n := range 200 {
		for _, s := range []string{bytesOf(n), strings.Repeat("\x00", n), strings.Repeat("\xff", n)} {
			list, e := Lay(s, 0x0102030405060708, 4, 5)
			if want := plainLay(s, 0x0102030405060708, 4, 5); !slices.Equal(list, want) || e != api.OK {
				t.Errorf("%d: %x %v, not %x", n, list, e, want)
			}
		}
	}
}

func TestLayWrittenOut(t *testing.T) {
	for _, c := range []struct{ n, sectors, last int }{{0, 1, 0}, {1, 1, 1}, {37, 1, 37}, {38, 2, 1}, {74, 2, 37}, {75, 3, 1}, {100, 3, 26}} {
		s := bytesOf(c.n)
		list := laid(t, s, 9, 4, 5)
		if len(list) != c.sectors {
			t.Error(c.n, len(list))
		}
		for i, x := range list {
			want := Piece{9, 4, 5, i, c.sectors, s[37*i:][:c.last]}
			if i < c.sectors-1 {
				want.Data = s[37*i:][:37]
			}
			reads(t, x, want)
		}
	}
}

func TestLayOfNumbers(t *testing.T) {
	for _, gen := range gens() {
		for _, no := range nos() {
			for _, stamp := range stamps() {
				for _, n := range []int{0, 40} {
					list, e := Lay(bytesOf(n), stamp, gen.n, no.n)
					if gen.ok && no.ok {
						if !slices.Equal(list, plainLay(bytesOf(n), stamp, gen.n, no.n)) || e != api.OK {
							t.Error(n, stamp, gen, no, e)
						}
					} else if len(list) != 0 || e != api.ErrArg {
						t.Error(n, stamp, gen, no, len(list), e)
					}
				}
			}
		}
	}
}

func TestLongTexts(t *testing.T) {
	const most = 65535 * 37
	for _, c := range []struct{ n, sectors int }{{most, 65535}, {most - 36, 65535}, {most - 37, 65534}} {
		s := bytesOf(c.n)
		list := laid(t, s, 1, 1<<31-1, 65535)
		if len(list) != c.sectors {
			t.Fatal(c.n, len(list))
		}
		for _, i := range []int{0, 1, 255, 256, c.sectors - 2, c.sectors - 1} {
			reads(t, list[i], Piece{1, 1<<31 - 1, 65535, i, c.sectors, s[37*i : min(37*i+37, c.n)]})
		}
		stands(t, list, 0, c.sectors, 1<<31-1, 65535, s, c.sectors)
		none(t, list, 0, c.sectors-1, 1<<31-1, 65535)
	}
	for _, n := range []int{most + 1, most + 37, most + 38, 37 << 16, 37<<16 + 1, 37 * (1<<16 + 1), 1 << 23} {
		if list, e := Lay(strings.Repeat("a", n), 1, 1, 1); len(list) != 0 || e != api.ErrArg {
			t.Error(n, len(list), e)
		}
	}
}

func TestCount(t *testing.T) {
	for _, c := range []struct{ n, want int }{
		{math.MinInt, 1}, {math.MinInt + 1, 1}, {-1 << 32, 1}, {-75, 1}, {-74, 1}, {-38, 1}, {-37, 1}, {-36, 1}, {-1, 1},
		{0, 1}, {1, 1}, {36, 1}, {37, 1}, {38, 2}, {73, 2}, {74, 2}, {75, 3}, {100, 3}, {111, 3}, {112, 4}, {600, 17},
		{65535 * 37, 65535}, {65535*37 + 1, 65536},
		{math.MaxInt, 249280325320399347}, {math.MaxInt - 5, 249280325320399346}, {math.MaxInt - 4, 249280325320399347},
	} {
		if n := Count(c.n); n != c.want {
			t.Error(c.n, n, c.want)
		}
	}
	for n := range 500 {
		if want := len(plainLay(bytesOf(n), 0, 0, 0)); Count(n) != want {
			t.Error(n, Count(n), want)
		}
	}
}

// P4.2: Next

func TestNextOfAText(t *testing.T) {
	for _, n := range []int{0, 1, 36, 37, 38, 73, 74, 75, 100, 500} {
		s := bytesOf(n)
		for _, stamp := range stamps() {
			list := laid(t, s, stamp, 4, 5)
			end := len(list)
			// Right at the end, and ahead of it.
			stands(t, list, 0, end, 4, 5, s, end)
			stands(t, list, 0, end+1, 4, 5, s, end)
			stands(t, list, 0, math.MaxInt, 4, 5, s, end)
			for at := range end {
				none(t, list, 0, at, 4, 5)
			}
			for at := 1; at <= end+1; at++ {
				none(t, list, at, end, 4, 5)
				none(t, list, at, end+5, 4, 5)
			}
		}
	}
}

func TestNextOfAnyPlace(t *testing.T) {
	s := bytesOf(100)
	list := laid(t, s, 9, 4, 5)
	for _, at := range []int{math.MinInt, math.MinInt + 1, -1 << 32, -3, -2, -1, 0, 1, 4095, 1 << 32, math.MaxInt - 4, math.MaxInt - 3} {
		for _, end := range []int{at + 3, at + min(4, math.MaxInt-max(at, 0)), math.MaxInt} {
			if x, next, ok := Next(from(t, list, at, at, end), at, end, 4, 5); x != s || next != at+3 || !ok {
				t.Error(at, end, len(x), next, ok)
			}
		}
		for _, end := range []int{math.MinInt, at, at + 1, at + 2} {
			if x, next, ok := Next(from(t, list, at, at, end), at, end, 4, 5); x != "" || next != at || ok {
				t.Error(at, end, len(x), next, ok)
			}
		}
	}
	// The last places of all: at the end, and behind it, there is nothing to ask.
	for _, at := range []int{math.MaxInt - 2, math.MaxInt - 1, math.MaxInt} {
		for _, end := range []int{math.MinInt, -1, 0, 1, at - 1, at, math.MaxInt} {
			if x, next, ok := Next(from(t, list, at, at, end), at, end, 4, 5); x != "" || next != at || ok {
				t.Error(at, end, len(x), next, ok)
			}
		}
	}
}

func TestNextAtItsEnd(t *testing.T) {
	list := laid(t, "a", 9, 4, 5)
	none(t, list, 0, 0, 4, 5)
	none(t, list, 0, -1, 4, 5)
	none(t, list, 0, math.MinInt, 4, 5)
	none(t, list, 1, 1, 4, 5)
	none(t, list, 1, 0, 4, 5)
	stands(t, list, 0, 1, 4, 5, "a", 1)
	list = laid(t, bytesOf(38), 9, 4, 5)
	none(t, list, 0, 1, 4, 5)
	none(t, list, 1, 2, 4, 5)
}

func TestNextOfTextsOneBehindTheOther(t *testing.T) {
	texts := []string{"", bytesOf(37), bytesOf(38), "", bytesOf(74), bytesOf(75), "a", bytesOf(100)}
	var list []string
	for i, s := range texts {
		list = append(list, laid(t, s, uint64(1<<32+i), 3, i)...)
	}
	at := 0
	for i, s := range texts {
		for no := range texts {
			if no != i {
				none(t, list, at, len(list), 3, no)
			}
		}
		stands(t, list, at, len(list), 3, i, s, at+Count(len(s)))
		at += Count(len(s))
	}
	none(t, list, at, len(list), 3, len(texts))
	none(t, list, at, math.MaxInt, 3, len(texts))
}

func TestNextOfNumbers(t *testing.T) {
	s := bytesOf(50)
	for _, gen := range []int{0, 1, 4, 1<<31 - 1} {
		for _, no := range []int{0, 1, 5, 65535} {
			list := laid(t, s, 9, gen, no)
			stands(t, list, 0, 2, gen, no, s, 2)
			for _, other := range []int{math.MinInt, -1 << 32, -1 << 31, -1 << 16, -2, -1, 1, 2, 1 << 16, 1 << 31, 1 << 32, math.MaxInt} {
				none(t, list, 0, 2, gen+other, no)
				none(t, list, 0, 2, gen, no+other)
				none(t, list, 0, 2, gen+other, no+other)
				none(t, list, 0, 2, other, no^other)
			}
		}
	}
}

func TestPiecesOfUnlikeTexts(t *testing.T) {
	for _, n := range []int{38, 75, 100, 200} {
		whole := laid(t, bytesOf(n), 9, 4, 5)
		for i := range whole {
			own, _ := plainRead(whole[i])
			for _, change := range []func(p *Piece){
				func(p *Piece) { p.Stamp = 10 },
				func(p *Piece) { p.Stamp |= 1 << 63 },
				func(p *Piece) { p.Gen = 3 },
				func(p *Piece) { p.Gen = 6 },
				func(p *Piece) { p.Gen |= 1 << 30 },
				func(p *Piece) { p.No = 4 },
				func(p *Piece) { p.No = 6 },
				func(p *Piece) { p.No |= 1 << 15 },
				func(p *Piece) { p.Total++ },
				func(p *Piece) { p.Total = 65535 },
				func(p *Piece) { p.Total = max(2, p.Index+1) },
			} {
				p := own
				change(&p)
				if p == own {
					continue
				}
				list := slices.Clone(whole)
				list[i] = plain(p)
				none(t, list, 0, len(list), 4, 5)
				none(t, list, 0, math.MaxInt, 4, 5)
			}
		}
	}
}

func TestSectorsThatAreNone(t *testing.T) {
	whole := laid(t, bytesOf(100), 9, 4, 5)
	for i := range whole {
		for _, s := range []string{"", "a", whole[i][:63], whole[i] + "\x00", strings.Repeat("\x00", 64), strings.Repeat("\xff", 64), whole[i][:63] + "x"} {
			list := slices.Clone(whole)
			list[i] = s
			none(t, list, 0, 3, 4, 5)
			// Nor of a gen and a number that are noughts, as a new disk's sectors are.
			none(t, []string{s, s}, 0, 2, 0, 0)
		}
	}
}

func TestAnIndexThatIsWrong(t *testing.T) {
	l := laid(t, bytesOf(140), 9, 4, 5)
	for _, list := range [][]string{
		{l[0], l[2], l[3]}, {l[0], l[1], l[3]}, {l[0], l[3]}, {l[1], l[2], l[3]}, {l[3]}, {l[1], l[0], l[2], l[3]},
		{l[0], l[0], l[1], l[2], l[3]}, {l[0], l[1], l[1], l[2], l[3]}, {l[0], l[1], l[2], l[2], l[3]}, {l[0], l[2], l[1], l[3]},
		{l[0], l[1], l[3], l[2]}, {l[3], l[2], l[1], l[0]}, {l[0], l[1], l[2], l[0]},
	} {
		none(t, list, 0, len(list), 4, 5)
		none(t, list, 0, math.MaxInt, 4, 5)
	}
	stands(t, l, 0, 4, 4, 5, bytesOf(140), 4)
	// One sector at all places: the first Index goes on for ever.
	if s, next, ok := Next(func(int) string { return l[0] }, 0, math.MaxInt, 4, 5); s != "" || next != 0 || ok {
		t.Error(s, next, ok)
	}
}

func TestDataThatNoTextLeaves(t *testing.T) {
	full := bytesOf(37)
	for _, c := range []struct {
		datas []string
		ok    bool
	}{
		{[]string{""}, true},
		{[]string{full[:36]}, true},
		{[]string{full}, true},
		{[]string{full, full}, true},
		{[]string{full, "a"}, true},
		{[]string{full, full, "a"}, true},
		{[]string{full, ""}, false},
		{[]string{full, full, ""}, false},
		{[]string{"", ""}, false},
		{[]string{"", "a"}, false},
		{[]string{"", full}, false},
		{[]string{full[:36], "a"}, false},
		{[]string{"a", full}, false},
		{[]string{full[:36], full, full}, false},
		{[]string{full, full[:36], full}, false},
		{[]string{full, "", full}, false},
		{[]string{full, "", ""}, false},
	} {
		var list []string
		for i, data := range c.datas {
			list = append(list, plain(Piece{9, 4, 5, i, len(c.datas), data}))
		}
		if c.ok {
			stands(t, list, 0, len(list), 4, 5, strings.Join(c.datas, ""), len(list))
		} else {
			none(t, list, 0, len(list), 4, 5)
		}
	}
}

func TestNextOfNoRead(t *testing.T) {
	broken := func(int) string { panic("no place") }
	half := func(place int) string {
		return laid(t, bytesOf(100), 9, 4, 5)[:1][place]
	}
	for _, read := range []func(int) string{nil, broken, half} {
		for _, at := range []int{0, -1, math.MinInt, math.MaxInt} {
			for _, end := range []int{0, 3, math.MaxInt, math.MinInt} {
				if s, next, ok := Next(read, at, end, 4, 5); s != "" || next != at || ok {
					t.Error(at, end, s, next, ok)
				}
			}
		}
	}
}

// mixed is sectors of some texts one behind the other, of which now and then one is changed, left out, or stands twice.
func mixed(r *rand.Rand) []string {
	var list []string
	for range 1 + r.Intn(3) {
		s := bytesOf([]int{0, 1, 37, 38, 74, 75, r.Intn(150)}[r.Intn(7)])
		list = append(list, plainLay(s, uint64(r.Intn(2)), r.Intn(2), r.Intn(2))...)
	}
	for range r.Intn(3) {
		i := r.Intn(len(list))
		p, ok := plainRead(list[i])
		if !ok {
			continue
		}
		switch r.Intn(8) {
		case 0:
			p.Stamp ^= 1
		case 1:
			p.Gen ^= 1
		case 2:
			p.No ^= 1
		case 3:
			p.Index = max(0, p.Index+r.Intn(3)-1)
		case 4:
			p.Total += r.Intn(3) - 1
		case 5:
			p.Data = p.Data[:r.Intn(len(p.Data)+1)]
		case 6:
			list = slices.Delete(list, i, i+1)
			if len(list) == 0 {
				return list
			}
			continue
		default:
			list = slices.Insert(list, i, list[i])
			continue
		}
		list[i] = plain(p)
	}
	return list
}

func TestNextAsThePlainOne(t *testing.T) {
	r := rand.New(rand.NewSource(2))
	found, missed := 0, 0
	for range 30000 {
		list := mixed(r)
		at := r.Intn(len(list) + 1)
		if r.Intn(2) == 0 {
			at = 0
		}
		end := at + r.Intn(len(list)-at+1)
		gen, no := r.Intn(2), r.Intn(2)
		if s, next, ok := plainNext(list, at, end, gen, no); ok {
			found++
			stands(t, list, at, end, gen, no, s, next)
		} else {
			missed++
			none(t, list, at, end, gen, no)
		}
	}
	if found < 1000 || missed < 1000 {
		t.Error(found, missed)
	}
}

// P4.3

// torn is the two ways in which the one sector's beginning goes with the rest of the other one.
func torn(t *testing.T, p, q Piece) {
	t.Helper()
	a, _ := Print(p)
	b, _ := Print(q)
	reads(t, a, p)
	reads(t, b, q)
	for cut := 8; cut <= 56; cut++ {
		refused(t, a[:cut]+b[cut:])
		refused(t, b[:cut]+a[cut:])
	}
}

func TestTornSectors(t *testing.T) {
	for _, p := range []Piece{
		{9, 4, 5, 0, 1, ""}, {9, 4, 5, 0, 1, "a"}, {9, 4, 5, 1, 3, bytesOf(36)}, {9, 4, 5, 1, 3, bytesOf(37)},
		{0, 0, 0, 0, 1, ""}, {math.MaxUint64, 1<<31 - 1, 65535, 65534, 65535, strings.Repeat("\xff", 37)},
	} {
		// Unlike by one bit alone, wherever it stands, and else the same.
		for bit := range 64 {
			q := p
			q.Stamp ^= 1 << bit
			torn(t, p, q)
		}
		// And with all else unlike as well.
		torn(t, p, Piece{p.Stamp + 1, 7, 8, 2, 4, bytesOf(20)})
		torn(t, p, Piece{p.Stamp - 1, 1 << 30, 1, 0, 1, ""})
	}
}

func TestAnyTornSectors(t *testing.T) {
	r := rand.New(rand.NewSource(3))
	for range 3000 {
		p, q := edgePiece(r), edgePiece(r)
		if p.Stamp != q.Stamp {
			torn(t, p, q)
		}
	}
}

func TestNextOfTornSectors(t *testing.T) {
	now, ahead := laid(t, bytesOf(100), 10, 4, 5), laid(t, strings.Repeat("z", 100), 9, 4, 5)
	for i := range now {
		for cut := 8; cut <= 56; cut++ {
			list := slices.Clone(now)
			list[i] = now[i][:cut] + ahead[i][cut:]
			none(t, list, 0, 3, 4, 5)
			// The one ahead of it is gone as well.
			list = slices.Clone(ahead)
			list[i] = now[i][:cut] + ahead[i][cut:]
			none(t, list, 0, 3, 4, 5)
		}
	}
}
