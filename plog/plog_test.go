package plog

import (
	"encoding/binary"
	"math"
	"math/rand"
	"slices"
	"strings"
	"testing"

	"lockage/api"
	"lockage/disk"
)

// bytesOf is n bytes, no two next to each other the same, so that one that slips or is cut off is felt.
func bytesOf(n int) string {
	b := make([]byte, n)
	for i := range b {
		b[i] = byte(1 + i%251)
	}
	return string(b)
}

// filling is a text of so many sectors, all of them full.
func filling(sectors int) string { return bytesOf(37 * sectors) }

// plainLay is a text's sectors as chapter 4 tells them.
func plainLay(s string, stamp uint64, gen, no int) []string {
	var cuts []string
	for len(s) > 37 {
		cuts, s = append(cuts, s[:37]), s[37:]
	}
	cuts = append(cuts, s)
	var list []string
	for i, data := range cuts {
		b := binary.BigEndian.AppendUint64(nil, stamp)
		b = binary.BigEndian.AppendUint32(b, uint32(gen))
		for _, n := range []int{no, i, len(cuts)} {
			b = binary.BigEndian.AppendUint16(b, uint16(n))
		}
		b = append(b, byte(len(data)))
		b = append(b, data...)
		b = append(b, make([]byte, 37-len(data))...)
		list = append(list, string(binary.BigEndian.AppendUint64(b, stamp)))
	}
	return list
}

// told is what a log tells.
type told struct {
	gen     int
	begin   string
	room    int
	records []string
}

func tell(l *Log) told { return told{l.Gen(), l.Base(), l.Room(), l.Records()} }

func (a told) is(b told) bool {
	return a.gen == b.gen && a.begin == b.begin && a.room == b.room && slices.Equal(a.records, b.records)
}

func fresh(t *testing.T, n int) *disk.Disk {
	t.Helper()
	d, e := disk.New(n)
	if e != api.OK {
		t.Fatal(n, e)
	}
	return d
}

// put keeps a list of sectors from a place on, and tells the place behind them.
func put(t *testing.T, d *disk.Disk, at int, list ...string) int {
	t.Helper()
	for i, s := range list {
		if e := d.Write(at+i, s); e != api.OK {
			t.Fatal(at+i, e)
		}
	}
	if e := d.Flush(); e != api.OK {
		t.Fatal(e)
	}
	return at + len(list)
}

// laid keeps a half by hand: its beginning and its records, each of its own stamp.
func laid(t *testing.T, d *disk.Disk, at, gen int, texts ...string) int {
	t.Helper()
	for no, s := range texts {
		at = put(t, d, at, plainLay(s, uint64(1000*gen+no), gen, no)...)
	}
	return at
}

func opened(t *testing.T, d *disk.Disk, base, half int, boot uint32) *Log {
	t.Helper()
	l, e := Open(d, base, half, boot)
	if l == nil || e != api.OK {
		t.Fatal(base, half, boot, l, e)
	}
	return l
}

func tells(t *testing.T, l *Log, gen int, begin string, room int, records ...string) {
	t.Helper()
	if was, want := tell(l), (told{gen, begin, room, records}); !was.is(want) {
		t.Errorf("%#v, not %#v", was, want)
	}
}

// stands opens what is there anew.
func stands(t *testing.T, d *disk.Disk, base, half, gen int, begin string, room int, records ...string) {
	t.Helper()
	tells(t, opened(t, d, base, half, 77), gen, begin, room, records...)
}

func appended(t *testing.T, l *Log, rec, after string) {
	t.Helper()
	if e := l.Append(rec, after); e != api.OK {
		t.Fatal(len(rec), len(after), e)
	}
}

// kept is all sectors as they are kept.
func kept(d *disk.Disk) []string {
	var list []string
	for at := range d.Len() {
		list = append(list, d.Kept(at))
	}
	return list
}

// refused holds an Append against the error that it has to answer, and asks that it has written nothing and is told nothing.
func refused(t *testing.T, l *Log, d *disk.Disk, rec, after string, want api.Errno) {
	t.Helper()
	was, before, writes := tell(l), kept(d), d.Writes()
	if e := l.Append(rec, after); e != want {
		t.Error(len(rec), len(after), e, want)
	}
	if d.Writes() != writes || !slices.Equal(kept(d), before) {
		t.Error(want, "but written", d.Writes()-writes)
	}
	if !tell(l).is(was) {
		t.Errorf("%v: %#v, not %#v", want, tell(l), was)
	}
}

// holds asks for each sector of a disk: those of want from a place on, and noughts, or what else was there.
func holds(t *testing.T, d *disk.Disk, was []string, at int, want ...string) []string {
	t.Helper()
	all := slices.Clone(was)
	copy(all[at:], want)
	for i, s := range all {
		if d.Kept(i) != s {
			t.Errorf("%d: %x, not %x", i, d.Kept(i), s)
		}
	}
	return all
}

// P5.1

func TestNilDisk(t *testing.T) {
	for _, base := range []int{math.MinInt, -1, 0, 1, math.MaxInt} {
		for _, half := range []int{math.MinInt, -1, 0, 1, 2000, 2001, math.MaxInt} {
			if l, e := Open(nil, base, half, 1); l != nil || e != api.ErrNil {
				t.Error(base, half, l, e)
			}
		}
	}
}

func TestWhichHalvesMayBe(t *testing.T) {
	const n = 4096
	d := fresh(t, n)
	off := fresh(t, n)
	off.Crash(0)
	halves := []int{math.MinInt, -1 << 62, -1 << 32, -2000, -2, -1, 0, 1, 2, 3, 100, 1999, 2000, 2001, 2048, 4096, 1 << 32, 1<<32 + 1, 1 << 62, 1<<63 - 2000, math.MaxInt}
	for _, half := range halves {
		bases := []int{math.MinInt, math.MinInt + 1, -1 << 32, -4000, -2, -1, 0, 1, 96, 97, 4094, 4095, 4096, 1 << 32, 1 << 62, math.MaxInt - 3999, math.MaxInt - 1, math.MaxInt}
		if 0 < half && half <= 2000 {
			bases = append(bases, n-2*half-1, n-2*half, n-2*half+1, n-half, n-1)
		}
		for _, base := range bases {
			may := 1 <= half && half <= 2000 && 0 <= base && base <= n && base+2*half <= n
			want, offWant := api.ErrArg, api.ErrArg
			if may {
				want, offWant = api.OK, api.ErrDown
			}
			if l, e := Open(d, base, half, 1); e != want || (l != nil) != may {
				t.Error(base, half, l != nil, e, want)
			}
			if l, e := Open(off, base, half, 1); e != offWant || l != nil {
				t.Error("off", base, half, l, e, offWant)
			}
		}
	}
}

func TestDisksThatJustHaveBothHalves(t *testing.T) {
	for _, half := range []int{1, 2, 7, 2000} {
		for _, base := range []int{0, 1, 50} {
			n := base + 2*half
			d := fresh(t, n)
			l := opened(t, d, base, half, 1)
			// Both halves are used up to their last sectors.
			appended(t, l, "", filling(half))
			appended(t, l, "", filling(half))
			stands(t, d, base, half, 2, filling(half), 0)
			if n > 2 {
				d = fresh(t, n-1)
				if l, e := Open(d, base, half, 1); l != nil || e != api.ErrArg {
					t.Error(base, half, l, e)
				}
			}
			if l, e := Open(d, base+1, half, 1); l != nil || e != api.ErrArg {
				t.Error(base, half, l, e)
			}
		}
	}
	if l, e := Open(fresh(t, 1), 0, 1, 1); l != nil || e != api.ErrArg {
		t.Error(l, e)
	}
	if l, e := Open(new(disk.Disk), 0, 1, 1); l != nil || e != api.ErrArg {
		t.Error(l, e)
	}
}

func TestOpenOnAgain(t *testing.T) {
	d := fresh(t, 4)
	appended(t, opened(t, d, 0, 2, 1), "", "A")
	d.Crash(0)
	if l, e := Open(d, 0, 2, 2); l != nil || e != api.ErrDown {
		t.Error(l, e)
	}
	d.Start()
	stands(t, d, 0, 2, 1, "A", 1)
}

func TestEmptyLogs(t *testing.T) {
	for _, half := range []int{1, 2, 5, 2000} {
		d := fresh(t, 2*half)
		stands(t, d, 0, half, 0, "", 0)
	}
	// Sectors of anything but a text.
	for _, c := range []byte{0, 1, 37, 128, 255} {
		d := fresh(t, 6)
		for at := range 6 {
			put(t, d, at, strings.Repeat(string([]byte{c}), 64))
		}
		stands(t, d, 0, 3, 0, "", 0)
		stands(t, d, 1, 2, 0, "", 0)
	}
}

func TestOpenWritesNothing(t *testing.T) {
	d := fresh(t, 9)
	laid(t, d, 0, 1, "A", "a", filling(2))
	laid(t, d, 4, 2, "B", "b")
	if e := d.Write(8, strings.Repeat("x", 64)); e != api.OK {
		t.Fatal(e)
	}
	was, writes := kept(d), d.Writes()
	stands(t, d, 0, 4, 2, "B", 2, "b")
	if l, e := Open(d, 2, 4, 1); l != nil || e != api.ErrArg {
		t.Error(l, e)
	}
	if d.Writes() != writes {
		t.Error(d.Writes())
	}
	// Nor is it flushed.
	holds(t, d, was, 0)
}

func TestAHalfThatIsLaid(t *testing.T) {
	for gen := 1; gen <= 6; gen++ {
		at := 3 // where the halves of odd gens stand
		if gen%2 == 0 {
			at = 3 + 8
		}
		for _, texts := range [][]string{
			{""}, {"A"}, {filling(1)}, {filling(1) + "x"}, {filling(7)}, {filling(7) + "x"}, {filling(8)},
			{"", ""}, {"", "", "", "", "", "", "", ""}, {"A", "b", "c"}, {filling(2), filling(3), "d"}, {"A", filling(7)}, {filling(7), "b"}, {filling(4), "", filling(3)},
		} {
			d := fresh(t, 20)
			behind := laid(t, d, at, gen, texts...)
			stands(t, d, 3, 8, gen, texts[0], at+8-behind, texts[1:]...)
			// Noughts, and other sectors around the halves, are none of its.
			laid(t, d, 0, gen, "other", "other", "other")
			put(t, d, 19, plainLay("other", 1, gen, len(texts))...)
			stands(t, d, 3, 8, gen, texts[0], at+8-behind, texts[1:]...)
		}
	}
}

func TestAHalfOfTheOtherKind(t *testing.T) {
	for _, gen := range []int{1, 2, 3, 4, 1<<31 - 2, 1<<31 - 1} {
		right, wrong := 0, 4
		if gen%2 == 0 {
			right, wrong = 4, 0
		}
		d := fresh(t, 8)
		laid(t, d, wrong, gen, "wrong", "a")
		stands(t, d, 0, 4, 0, "", 0)
		// Beside one of the right kind, and of a lesser gen.
		d = fresh(t, 8)
		laid(t, d, wrong, gen+2, "wrong", "a", "b")
		laid(t, d, right, gen, "right", "c")
		stands(t, d, 0, 4, gen, "right", 2, "c")
	}
}

func TestBothHalvesLaid(t *testing.T) {
	for _, c := range []struct{ odd, even int }{{1, 2}, {3, 2}, {3, 4}, {5, 2}, {1, 100}, {255, 256}, {257, 256}, {65535, 65536}, {1<<31 - 3, 1<<31 - 2}, {1<<31 - 1, 1<<31 - 2}, {1<<31 - 1, 2}, {1, 1<<31 - 2}} {
		d := fresh(t, 10)
		laid(t, d, 0, c.odd, "odd", "o1", "o2")
		laid(t, d, 5, c.even, "even", "e1", filling(2))
		if c.odd > c.even {
			stands(t, d, 0, 5, c.odd, "odd", 2, "o1", "o2")
		} else {
			stands(t, d, 0, 5, c.even, "even", 1, "e1", filling(2))
		}
	}
}

func TestTheGreaterGenIsNotLaid(t *testing.T) {
	whole := plainLay(filling(3), 9, 2, 0)
	for i := range whole {
		d := fresh(t, 10)
		laid(t, d, 0, 1, "A", "a")
		put(t, d, 5, whole...)
		put(t, d, 5+i, strings.Repeat("\x00", 64))
		stands(t, d, 0, 5, 1, "A", 3, "a")
		// Of another stamp, gen, number or place; torn.
		put(t, d, 5+i, plainLay(filling(3), 10, 2, 0)[i])
		stands(t, d, 0, 5, 1, "A", 3, "a")
		put(t, d, 5+i, plainLay(filling(3), 9, 4, 0)[i])
		stands(t, d, 0, 5, 1, "A", 3, "a")
		put(t, d, 5+i, plainLay(filling(3), 9, 2, 1)[i])
		stands(t, d, 0, 5, 1, "A", 3, "a")
		put(t, d, 5+i, plainLay(filling(4), 9, 2, 0)[(i+1)%4])
		stands(t, d, 0, 5, 1, "A", 3, "a")
		put(t, d, 5+i, whole[i][:48]+strings.Repeat("\x00", 16))
		stands(t, d, 0, 5, 1, "A", 3, "a")
		put(t, d, 5+i, whole[i])
		stands(t, d, 0, 5, 2, filling(3), 2)
	}
}

func TestNoBeginning(t *testing.T) {
	// Of gen 0, in either half.
	for _, at := range []int{0, 4} {
		d := fresh(t, 8)
		laid(t, d, at, 0, "A", "a")
		stands(t, d, 0, 4, 0, "", 0)
	}
	// Of gens that no piece has.
	for _, gen := range []int{-1, 1 << 31, 1<<31 + 1} {
		for _, at := range []int{0, 4} {
			d := fresh(t, 8)
			put(t, d, at, plainLay("A", 1, gen, 0)...)
			stands(t, d, 0, 4, 0, "", 0)
		}
	}
	// Of another No.
	for _, no := range []int{1, 2, 256, 65535} {
		d := fresh(t, 8)
		at := put(t, d, 0, plainLay("A", 1, 1, no)...)
		put(t, d, at, plainLay("a", 2, 1, 1)...)
		stands(t, d, 0, 4, 0, "", 0)
	}
	// At another sector than the first one.
	d := fresh(t, 8)
	laid(t, d, 1, 1, "A")
	laid(t, d, 5, 2, "B")
	stands(t, d, 0, 4, 0, "", 0)
}

func TestWhatStandsBehindTheLastRecord(t *testing.T) {
	for _, texts := range [][]string{{"A"}, {"A", "a"}, {filling(2), "a", "b"}} {
		n := len(texts) - 1
		for _, other := range [][]string{
			plainLay("x", 9, 3, n+1),                    // another gen, and no other number
			plainLay("x", 9, 2, n+1),                    //
			plainLay("x", 9, 7, n+1),                    //
			plainLay("x", 9, 0, n+1),                    //
			plainLay("x", 9, 5, n),                      // its own number once more
			plainLay("x", 9, 5, 0),                      // a beginning once more
			plainLay("x", 9, 5, n+2),                    // one that isn't next
			plainLay("x", 9, 5, n+257),                  //
			plainLay(filling(2), 9, 5, n+1)[:1],         // one without its end
			plainLay(filling(2), 9, 5, n+1)[1:],         // one without its beginning
			{strings.Repeat("\x00", 64)},                // nothing
			{plainLay("x", 9, 5, n+1)[0][:63] + "\xff"}, // torn
		} {
			d := fresh(t, 20)
			at := laid(t, d, 0, 5, texts...)
			behind := put(t, d, at, other...)
			// What would be a record, if one stood ahead of it, is none.
			put(t, d, behind, plainLay("y", 10, 5, n+2)...)
			stands(t, d, 0, 10, 5, texts[0], 10-at, texts[1:]...)
			// As a record it is read, and what stands behind it too.
			put(t, d, at, plainLay("z", 11, 5, n+1)...)
			put(t, d, at+1, plainLay("y", 10, 5, n+2)...)
			stands(t, d, 0, 10, 5, texts[0], 10-at-2, append(slices.Clone(texts[1:]), "z", "y")...)
		}
	}
}

func TestTextsOverTheEndOfTheirHalf(t *testing.T) {
	// A beginning that goes on in the second half.
	d := fresh(t, 8)
	laid(t, d, 0, 1, filling(5))
	stands(t, d, 0, 4, 0, "", 0)
	stands(t, d, 0, 3, 0, "", 0)
	// Behind the second one.
	d = fresh(t, 12)
	laid(t, d, 4, 2, filling(5))
	stands(t, d, 0, 4, 0, "", 0)
	// A record that goes on there.
	d = fresh(t, 8)
	laid(t, d, 0, 1, "A", "a", filling(3))
	stands(t, d, 0, 4, 1, "A", 2, "a")
	d = fresh(t, 12)
	laid(t, d, 4, 2, "A", "a", filling(3))
	stands(t, d, 0, 4, 2, "A", 2, "a")
	// One that begins there.
	d = fresh(t, 12)
	laid(t, d, 0, 1, "A", "a", filling(2), "b")
	stands(t, d, 0, 4, 1, "A", 0, "a", filling(2))
	d = fresh(t, 12)
	laid(t, d, 4, 2, "A", "a", filling(2), "b")
	stands(t, d, 0, 4, 2, "A", 0, "a", filling(2))
}

// plainText tries each number of sectors from a place of a half on, and holds them against those of the text that they would have.
func plainText(half []string, at, gen, no int) (string, int) {
	text := ""
	for n := 1; at+n <= len(half); n++ {
		s := half[at+n-1]
		text += s[19 : 19+min(int(s[18]), 37)]
		stamp := binary.BigEndian.Uint64([]byte(half[at]))
		if slices.Equal(half[at:at+n], plainLay(text, stamp, gen, no)) {
			return text, n
		}
	}
	return "", 0
}

// plainHalf is what the chapter makes of a half.
func plainHalf(half []string, kind int) told {
	gen := int(binary.BigEndian.Uint32([]byte(half[0][8:12])))
	if gen < 1 || gen >= 1<<31 || gen%2 != kind {
		return told{}
	}
	begin, at := plainText(half, 0, gen, 0)
	if at == 0 {
		return told{}
	}
	h := told{gen: gen, begin: begin}
	for {
		rec, n := plainText(half, at, gen, len(h.records)+1)
		if n == 0 {
			h.room = len(half) - at
			return h
		}
		h.records, at = append(h.records, rec), at+n
	}
}

func plainOpen(d *disk.Disk, base, half int) told {
	all := kept(d)
	a, b := plainHalf(all[base:base+half], 1), plainHalf(all[base+half:base+2*half], 0)
	if a.gen > b.gen {
		return a
	}
	return b
}

// anyTexts lays texts over each other, most of them where they could be a log's.
func anyTexts(t *testing.T, d *disk.Disk, r *rand.Rand, half int) {
	t.Helper()
	for range 1 + r.Intn(4) {
		at, gen := r.Intn(d.Len()), r.Intn(4)
		if r.Intn(4) > 0 {
			at = half * r.Intn(2)
		}
		for no := range 1 + r.Intn(4) {
			if r.Intn(12) == 0 {
				no++
			}
			list := plainLay(bytesOf(r.Intn(40)*r.Intn(4)), uint64(r.Intn(3)), gen, no)
			list = list[:min(len(list), d.Len()-at)]
			at = put(t, d, at, list...)
		}
	}
	for range r.Intn(3) {
		at := r.Intn(d.Len())
		b := []byte(d.Kept(at))
		b[r.Intn(64)] ^= byte(r.Intn(4))
		put(t, d, at, string(b))
	}
}

func TestDisksOfAnything(t *testing.T) {
	r := rand.New(rand.NewSource(5))
	gens, records := [4]int{}, 0
	for range 8000 {
		half := 1 + r.Intn(7)
		d := fresh(t, 2*half)
		anyTexts(t, d, r, half)
		want := plainOpen(d, 0, half)
		if l := opened(t, d, 0, half, 1); !tell(l).is(want) {
			t.Errorf("%d: %#v, not %#v", half, tell(l), want)
		}
		gens[min(want.gen, 3)]++
		records += len(want.records)
	}
	if slices.Min(gens[:]) < 100 || records < 1000 {
		t.Error("too few of some kind", gens, records)
	}
}

func TestRecordsAreNewMemory(t *testing.T) {
	d := fresh(t, 12)
	l := opened(t, d, 0, 6, 1)
	appended(t, l, "", "A")
	appended(t, l, "a", "")
	appended(t, l, "b", "")
	for _, l := range []*Log{l, opened(t, d, 0, 6, 2)} {
		list := l.Records()
		list[0] = "x"
		_ = append(list[:1], "y")
		_ = append(list, "z")
		tells(t, l, 1, "A", 3, "a", "b")
	}
	list := l.Records()
	appended(t, l, "c", "")
	if !slices.Equal(list, []string{"a", "b"}) {
		t.Error(list)
	}
	list = list[:2:2]
	tells(t, l, 1, "A", 2, "a", "b", "c")
}

func TestNilLog(t *testing.T) {
	var l *Log
	for _, s := range []string{"", "a", filling(3000)} {
		if e := l.Append(s, s); e != api.ErrNil {
			t.Error(e)
		}
	}
	if l.Base() != "" || len(l.Records()) != 0 || l.Gen() != 0 || l.Room() != 0 {
		t.Error(tell(l))
	}
	// One that nobody opened has no sectors.
	l = new(Log)
	tells(t, l, 0, "", 0)
	if e := l.Append("a", "A"); e != api.ErrFull {
		t.Error(e)
	}
}

// P5.2

func TestSectors(t *testing.T) {
	for n := range 500 {
		want := (n + 36) / 37
		if n == 0 {
			want = 1
		}
		if Sectors(bytesOf(n)) != want || Sectors(strings.Repeat("\x00", n)) != want {
			t.Error(n, Sectors(bytesOf(n)), want)
		}
	}
	if n := Sectors(filling(1 << 16)); n != 1<<16 {
		t.Error(n)
	}
}

func TestTheExample(t *testing.T) {
	d := fresh(t, 8)
	l := opened(t, d, 0, 4, 1)
	appended(t, l, "a", "A")
	tells(t, l, 1, "A", 3)
	appended(t, l, "b", "AB")
	tells(t, l, 1, "A", 2, "b")
	stands(t, d, 0, 4, 1, "A", 2, "b")
}

func TestWhatIsWritten(t *testing.T) {
	const boot, base, half = 0x01020304, 3, 6
	d := fresh(t, 20)
	for at := range 20 {
		put(t, d, at, strings.Repeat(string([]byte{byte('a' + at)}), 64))
	}
	all := kept(d)
	l := opened(t, d, base, half, boot)
	stamp := uint64(boot) << 32
	for _, c := range []struct {
		rec, after string
		at         int
		lays       string
		gen, no    int
	}{
		{"r1", "A", base, "A", 1, 0},
		{"r2", "B", base + 1, "r2", 1, 1},
		{filling(2) + "x", "C", base + 2, filling(2) + "x", 1, 2},
		{"", "D", base + 5, "", 1, 3},
		{"r3", filling(2), base + half, filling(2), 2, 0},
		{filling(4), "E", base + half + 2, filling(4), 2, 1},
		{"", "", base, "", 3, 0},
		{filling(3), "F", base + 1, filling(3), 3, 1},
		{filling(3), filling(6), base + half, filling(6), 4, 0},
		{"", filling(6), base, filling(6), 5, 0},
	} {
		stamp++
		writes := d.Writes()
		appended(t, l, c.rec, c.after)
		want := plainLay(c.lays, stamp, c.gen, c.no)
		if d.Writes() != writes+len(want) {
			t.Error(c, d.Writes()-writes)
		}
		all = holds(t, d, all, c.at, want...)
		if opened := opened(t, d, base, half, 9); !tell(opened).is(tell(l)) {
			t.Errorf("%#v, not %#v", tell(opened), tell(l))
		}
	}
}

func TestItIsFlushed(t *testing.T) {
	for _, bits := range []uint64{0, 1, 0o333333, math.MaxUint64} {
		d := fresh(t, 12)
		l := opened(t, d, 0, 6, 1)
		appended(t, l, "", filling(2))
		d.Crash(bits)
		d.Start()
		stands(t, d, 0, 6, 1, filling(2), 4)
		l = opened(t, d, 0, 6, 2)
		appended(t, l, filling(3), "")
		d.Crash(bits)
		d.Start()
		stands(t, d, 0, 6, 1, filling(2), 1, filling(3))
		l = opened(t, d, 0, 6, 3)
		appended(t, l, filling(2), filling(3))
		d.Crash(bits)
		d.Start()
		stands(t, d, 0, 6, 2, filling(3), 3)
	}
}

func TestStamps(t *testing.T) {
	stamp := func(d *disk.Disk, at int) uint64 { return binary.BigEndian.Uint64([]byte(d.Kept(at))) }
	for _, boot := range []uint32{0, 1, 255, 1 << 16, 1 << 31, math.MaxUint32} {
		d := fresh(t, 10)
		l := opened(t, d, 0, 5, boot)
		appended(t, l, "", "A")
		appended(t, l, filling(3), "")
		// Those that are refused take no number.
		refused(t, l, d, filling(2), filling(6), api.ErrFull)
		appended(t, l, "b", "")
		appended(t, l, "c", "C")
		first := uint64(boot) << 32
		for at, n := range []uint64{1, 2, 2, 2, 3, 4} {
			if stamp(d, at) != first+n {
				t.Errorf("%d: %x, not %x", at, stamp(d, at), first+n)
			}
		}
		// Each Log counts from 1 on, with its own boot.
		l = opened(t, d, 0, 5, boot^7)
		appended(t, l, "d", "")
		if stamp(d, 6) != uint64(boot^7)<<32+1 {
			t.Errorf("%x", stamp(d, 6))
		}
	}
	// Nor does one that finds the power off.
	d := fresh(t, 10)
	l := opened(t, d, 0, 5, 6)
	d.Crash(0)
	refused(t, l, d, "", "A", api.ErrDown)
	d.Start()
	appended(t, l, "", "A")
	if stamp(d, 0) != 6<<32+1 {
		t.Errorf("%x", stamp(d, 0))
	}
}

func TestHalvesInTurn(t *testing.T) {
	for _, half := range []int{1, 2, 3} {
		d := fresh(t, 2*half+1)
		l := opened(t, d, 1, half, 1)
		for gen := 1; gen <= 9; gen++ {
			begin := filling(half - gen%2*(half-1))
			appended(t, l, filling(half+1), begin)
			tells(t, l, gen, begin, half-Sectors(begin))
			stands(t, d, 1, half, gen, begin, half-Sectors(begin))
			// The half ahead of it is left as it was.
			if gen > 1 {
				at := 1 + half*((gen-2)%2)
				if was := plainHalf(kept(d)[at:at+half], (gen-1)%2); was.gen != gen-1 {
					t.Error(gen, was)
				}
			}
		}
	}
}

func TestAnEmptyLogTakesNoRecord(t *testing.T) {
	for _, half := range []int{1, 3} {
		d := fresh(t, 2*half)
		l := opened(t, d, 0, half, 1)
		refused(t, l, d, "a", filling(half)+"x", api.ErrFull)
		refused(t, l, d, "", filling(half+1), api.ErrFull)
		refused(t, l, d, "", filling(3000), api.ErrFull)
		tells(t, l, 0, "", 0)
		appended(t, l, "a", filling(half))
		tells(t, l, 1, filling(half), 0)
		stands(t, d, 0, half, 1, filling(half), 0)
	}
}

func TestRoomForARecord(t *testing.T) {
	for room := range 6 {
		begin := filling(6 - room)
		// One that just fits.
		if room > 0 {
			for _, rec := range []string{filling(room), filling(room-1) + "x"} {
				d := fresh(t, 12)
				l := opened(t, d, 0, 6, 1)
				appended(t, l, "", begin)
				tells(t, l, 1, begin, room)
				appended(t, l, rec, "B")
				tells(t, l, 1, begin, 0, rec)
				stands(t, d, 0, 6, 1, begin, 0, rec)
			}
		}
		// One that is a sector too long.
		for _, rec := range []string{filling(room) + "x", filling(room + 1), filling(7), filling(70000)} {
			d := fresh(t, 12)
			l := opened(t, d, 0, 6, 1)
			appended(t, l, "", begin)
			refused(t, l, d, rec, filling(6)+"x", api.ErrFull)
			appended(t, l, rec, "B")
			tells(t, l, 2, "B", 5)
			stands(t, d, 0, 6, 2, "B", 5)
		}
	}
}

func TestRoomGoesDown(t *testing.T) {
	d := fresh(t, 20)
	l := opened(t, d, 0, 10, 1)
	appended(t, l, "", filling(2))
	var records []string
	room := 8
	for _, rec := range []string{"", filling(1), filling(1) + "x", "a", filling(3)} {
		appended(t, l, rec, "other")
		records, room = append(records, rec), room-Sectors(rec)
		tells(t, l, 1, filling(2), room, records...)
		stands(t, d, 0, 10, 1, filling(2), room, records...)
		// Opened anew it goes on just there.
		l = opened(t, d, 0, 10, 2)
	}
	if l.Room() != 0 {
		t.Error(l.Room())
	}
}

func TestABeginningThatFits(t *testing.T) {
	for _, half := range []int{1, 2, 5, 2000} {
		d := fresh(t, 2*half)
		l := opened(t, d, 0, half, 1)
		for _, s := range []string{filling(half), filling(half-1) + "x", ""} {
			for _, long := range []string{filling(half) + "x", filling(half + 1), filling(2*half + 1), filling(66000)} {
				refused(t, l, d, filling(half), long, api.ErrFull)
			}
			gen := l.Gen() + 1
			appended(t, l, filling(half), s)
			tells(t, l, gen, s, half-Sectors(s))
			stands(t, d, 0, half, gen, s, half-Sectors(s))
		}
	}
}

func TestARecordGoesAheadOfABeginning(t *testing.T) {
	// Whatever the beginning is, if there is room for the record.
	d := fresh(t, 8)
	l := opened(t, d, 0, 4, 1)
	appended(t, l, "", "A")
	appended(t, l, "a", filling(5))
	appended(t, l, "b", "")
	appended(t, l, "", filling(4))
	tells(t, l, 1, "A", 0, "a", "b", "")
	stands(t, d, 0, 4, 1, "A", 0, "a", "b", "")
}

func TestManyEmptyRecords(t *testing.T) {
	d := fresh(t, 4000)
	l := opened(t, d, 0, 2000, 1)
	appended(t, l, "a", "")
	for range 1999 {
		appended(t, l, "", "B")
	}
	tells(t, l, 1, "", 0, make([]string, 1999)...)
	stands(t, d, 0, 2000, 1, "", 0, make([]string, 1999)...)
	refused(t, l, d, "", filling(2001), api.ErrFull)
	appended(t, l, "", "B")
	stands(t, d, 0, 2000, 2, "B", 1999)
}

func TestAnyBytes(t *testing.T) {
	b := make([]byte, 256)
	for i := range b {
		b[i] = byte(i)
	}
	texts := []string{string(b), strings.Repeat("\x00", 37), "\x00", strings.Repeat("\xff", 100), plainLay("x", 1, 1, 0)[0], "\xc3\x28"}
	for _, begin := range texts {
		d := fresh(t, 60)
		l := opened(t, d, 0, 30, 1)
		appended(t, l, "", begin)
		room := 30 - Sectors(begin)
		for i, rec := range texts {
			appended(t, l, rec, "")
			room -= Sectors(rec)
			tells(t, l, 1, begin, room, texts[:i+1]...)
		}
		stands(t, d, 0, 30, 1, begin, room, texts...)
	}
}

func TestTheLastGens(t *testing.T) {
	const last = 1<<31 - 2
	for _, gen := range []int{last, last + 1} {
		d := fresh(t, 8)
		at := 0
		if gen%2 == 0 {
			at = 4
		}
		laid(t, d, at, gen, "A", "a")
		stands(t, d, 0, 4, gen, "A", 2, "a")
		l := opened(t, d, 0, 4, 1)
		// With room, without, and where it would be full, or off.
		for _, off := range []bool{false, true} {
			if off {
				d.Crash(0)
			}
			for _, rec := range []string{"", "b", filling(2), filling(3)} {
				for _, after := range []string{"", "B", filling(4), filling(5)} {
					refused(t, l, d, rec, after, api.ErrLimit)
				}
			}
		}
		d.Start()
		stands(t, d, 0, 4, gen, "A", 2, "a")
	}
	d := fresh(t, 8)
	laid(t, d, 0, last-1, "A", "a")
	l := opened(t, d, 0, 4, 1)
	appended(t, l, "b", "")
	stands(t, d, 0, 4, last-1, "A", 1, "a", "b")
	refused(t, l, d, filling(2), filling(5), api.ErrFull)
	appended(t, l, filling(2), "B")
	tells(t, l, last, "B", 3)
	stands(t, d, 0, 4, last, "B", 3)
	refused(t, l, d, "c", "C", api.ErrLimit)
}

func TestAppendWhileItIsOff(t *testing.T) {
	d := fresh(t, 8)
	for _, l := range []*Log{opened(t, d, 0, 4, 1), opened(t, d, 0, 4, 2)} {
		d.Crash(1)
		refused(t, l, d, "b", "B", api.ErrDown)
		refused(t, l, d, filling(4), filling(4), api.ErrDown)
		// Where there is no room, that is named first.
		refused(t, l, d, filling(4), filling(5), api.ErrFull)
		d.Start()
		appended(t, l, "a", "A")
		d.Crash(1)
		refused(t, l, d, "b", "B", api.ErrDown)
		refused(t, l, d, filling(3), filling(5), api.ErrDown)
		refused(t, l, d, filling(4), filling(4), api.ErrDown)
		refused(t, l, d, filling(4), filling(5), api.ErrFull)
		d.Start()
		tells(t, l, 1, "A", 3)
		stands(t, d, 0, 4, 1, "A", 3)
	}
}

func TestARefusedAppendFlushesNothing(t *testing.T) {
	d := fresh(t, 9)
	l := opened(t, d, 0, 4, 1)
	appended(t, l, "", "A")
	was := kept(d)
	if e := d.Write(8, strings.Repeat("x", 64)); e != api.OK {
		t.Fatal(e)
	}
	refused(t, l, d, filling(4), filling(5), api.ErrFull)
	d.Crash(0)
	holds(t, d, was, 0)
}

func TestLogsOnOneDiskAreApart(t *testing.T) {
	d := fresh(t, 16)
	a, b := opened(t, d, 0, 4, 1), opened(t, d, 8, 4, 1)
	for i := range 20 {
		rec := bytesOf(i * 7)
		appended(t, a, rec, "A"+bytesOf(i))
		appended(t, b, bytesOf(i*3), "B"+bytesOf(2*i))
		for base, l := range map[int]*Log{0: a, 8: b} {
			if was := tell(opened(t, d, base, 4, 1)); !was.is(tell(l)) {
				t.Errorf("%d %d: %#v, not %#v", i, base, was, tell(l))
			}
		}
	}
}
