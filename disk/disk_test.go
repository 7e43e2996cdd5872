package disk

import (
	"math"
	"math/rand"
	"slices"
	"strings"
	"testing"

	"lockage/api"
)

var noughts = strings.Repeat("\x00", 64)

// text is a sector's bytes, no two of them next to each other the same, so that a byte that slips by one is felt.
func text(seed int) string {
	b := make([]byte, 64)
	for i := range b {
		b[i] = byte(seed*67 + i*3 + 1)
	}
	return string(b)
}

// made is a disk of n sectors, each of them written and kept: the i-th one has text(i).
func made(t *testing.T, n int) *Disk {
	t.Helper()
	d := fresh(t, n)
	for i := range n {
		written(t, d, i, text(i))
	}
	flushed(t, d)
	return d
}

func fresh(t *testing.T, n int) *Disk {
	t.Helper()
	d, e := New(n)
	if d == nil || e != api.OK {
		t.Fatal(n, d, e)
	}
	return d
}

func written(t *testing.T, d *Disk, at int, s string) {
	t.Helper()
	if e := d.Write(at, s); e != api.OK {
		t.Fatal(at, e)
	}
}

func refused(t *testing.T, d *Disk, at int, s string, want api.Errno) {
	t.Helper()
	if e := d.Write(at, s); e != want {
		t.Error(at, len(s), e, want)
	}
}

func flushed(t *testing.T, d *Disk) {
	t.Helper()
	if e := d.Flush(); e != api.OK {
		t.Fatal(e)
	}
}

func reads(t *testing.T, d *Disk, at int, want string) {
	t.Helper()
	if s, e := d.Read(at); s != want || e != api.OK {
		t.Errorf("%d: %q %v, not %q", at, s, e, want)
	}
}

func unread(t *testing.T, d *Disk, at int, want api.Errno) {
	t.Helper()
	if s, e := d.Read(at); s != "" || e != want {
		t.Errorf("%d: %q %v, not %v", at, s, e, want)
	}
}

func keeps(t *testing.T, d *Disk, at int, want string) {
	t.Helper()
	if s := d.Kept(at); s != want {
		t.Errorf("%d: %q, not %q", at, s, want)
	}
}

// isDown holds what a disk tells while its power is off against what it has to tell then.
func isDown(t *testing.T, d *Disk) {
	t.Helper()
	if !d.Down() || d.Flush() != api.ErrDown || d.Write(0, text(0)) != api.ErrDown {
		t.Error("on", d.Down(), d.Flush())
	}
	unread(t, d, 0, api.ErrDown)
}

// outside is places at which a disk of n sectors has none.
func outside(n int) []int {
	return []int{math.MinInt, -1 << 32, -4096, -64, -1, n, n + 1, n + 64, 1 << 32, math.MaxInt}
}

// wrongTexts is those of all lengths but one.
func wrongTexts() []string {
	return []string{"", "a", strings.Repeat("a", 63), strings.Repeat("a", 65), strings.Repeat("a", 128), strings.Repeat("a", 1<<16)}
}

// P3.1

func TestHowManySectors(t *testing.T) {
	for _, n := range []int{1, 2, 63, 64, 65, 4095, 4096} {
		d := fresh(t, n)
		if d.Len() != n || d.Down() || d.Writes() != 0 {
			t.Error(n, d.Len(), d.Down(), d.Writes())
		}
		for at := range n {
			reads(t, d, at, noughts)
			keeps(t, d, at, noughts)
		}
	}
	for _, n := range []int{math.MinInt, -4096, -1, 0, 4097, 8192, 1 << 32, 1<<32 + 1, math.MaxInt} {
		if d, e := New(n); d != nil || e != api.ErrArg {
			t.Error(n, d, e)
		}
	}
}

func TestEverySectorIsItsOwn(t *testing.T) {
	for _, n := range []int{1, 2, 4096} {
		d := made(t, n)
		for at := range n {
			reads(t, d, at, text(at))
			keeps(t, d, at, text(at))
		}
		written(t, d, 0, text(-1))
		written(t, d, n-1, text(-2))
		flushed(t, d)
		if n > 1 {
			keeps(t, d, 0, text(-1))
		}
		keeps(t, d, n-1, text(-2))
		for at := 1; at < n-1; at++ {
			keeps(t, d, at, text(at))
		}
	}
}

func TestSectorsOutside(t *testing.T) {
	for _, n := range []int{1, 3, 4096} {
		d := made(t, n)
		for _, at := range outside(n) {
			refused(t, d, at, text(9), api.ErrRange)
			unread(t, d, at, api.ErrRange)
			keeps(t, d, at, "")
		}
		if d.Writes() != n {
			t.Error(n, d.Writes())
		}
	}
}

func TestTextsOfOtherLengths(t *testing.T) {
	d := made(t, 2)
	for _, s := range wrongTexts() {
		refused(t, d, 0, s, api.ErrArg)
		refused(t, d, 1, s, api.ErrArg)
	}
	flushed(t, d)
	for at := range 2 {
		reads(t, d, at, text(at))
		keeps(t, d, at, text(at))
	}
	if d.Writes() != 2 {
		t.Error(d.Writes())
	}
}

func TestAnyBytes(t *testing.T) {
	d := fresh(t, 4)
	for at := range 4 {
		b := make([]byte, 64)
		for i := range b {
			b[i] = byte(at*64 + i)
		}
		written(t, d, at, string(b))
		reads(t, d, at, string(b))
		flushed(t, d)
		keeps(t, d, at, string(b))
	}
}

func TestWrittenTwiceAheadOfAFlush(t *testing.T) {
	d := made(t, 2)
	for i := 10; i < 14; i++ {
		written(t, d, 1, text(i))
		reads(t, d, 1, text(i))
		keeps(t, d, 1, text(1))
		reads(t, d, 0, text(0))
	}
	flushed(t, d)
	reads(t, d, 1, text(13))
	keeps(t, d, 1, text(13))
	keeps(t, d, 0, text(0))
	// What was kept is left where it is by a Flush of nothing, and by a later one.
	flushed(t, d)
	written(t, d, 0, text(14))
	reads(t, d, 1, text(13))
	flushed(t, d)
	keeps(t, d, 0, text(14))
	keeps(t, d, 1, text(13))
	if d.Writes() != 7 {
		t.Error(d.Writes())
	}
}

func TestWritesOfSeveralSectorsGoTogether(t *testing.T) {
	d := made(t, 3)
	for i, at := range []int{2, 0, 2, 1, 0, 2} {
		written(t, d, at, text(20+i))
	}
	want := []string{text(24), text(23), text(25)}
	for at, s := range want {
		reads(t, d, at, s)
		keeps(t, d, at, text(at))
	}
	flushed(t, d)
	for at, s := range want {
		reads(t, d, at, s)
		keeps(t, d, at, s)
	}
	// The cache is empty: what was flushed is not written once more.
	written(t, d, 2, text(30))
	d.Crash(0)
	for at, s := range want {
		keeps(t, d, at, s)
	}
}

func TestSeveralErrorsAtOnce(t *testing.T) {
	d := made(t, 2)
	for _, at := range outside(2) {
		for _, s := range wrongTexts() {
			refused(t, d, at, s, api.ErrRange)
		}
	}
	d.Crash(0)
	for _, at := range append(outside(2), 0, 1) {
		for _, s := range append(wrongTexts(), text(0)) {
			refused(t, d, at, s, api.ErrDown)
		}
		unread(t, d, at, api.ErrDown)
	}
	if e := d.Flush(); e != api.ErrDown {
		t.Error(e)
	}
	var none *Disk
	for _, at := range append(outside(2), 0, 1) {
		for _, s := range append(wrongTexts(), text(0)) {
			refused(t, none, at, s, api.ErrNil)
		}
		unread(t, none, at, api.ErrNil)
	}
}

func TestDisksAreApart(t *testing.T) {
	a, b := made(t, 2), made(t, 2)
	written(t, a, 0, text(5))
	reads(t, b, 0, text(0))
	a.Crash(1)
	if b.Down() || b.Writes() != 2 {
		t.Error(b.Down(), b.Writes())
	}
	keeps(t, a, 0, text(5))
	keeps(t, b, 0, text(0))
}

// P3.1 and P3.2: a power that is armed

func TestArmedForTheFirstWrite(t *testing.T) {
	for c, n := range []int{0, 64, 0, 16, 0, 32, 0, 48} {
		d := made(t, 2)
		d.Arm(api.Cut{At: 1, Bits: uint64(c)})
		if d.Down() {
			t.Error("off ahead of the write")
		}
		refused(t, d, 1, text(7), api.ErrDown)
		keeps(t, d, 1, text(7)[:n]+text(1)[n:])
		keeps(t, d, 0, text(0))
		if d.Writes() != 3 {
			t.Error(d.Writes())
		}
		isDown(t, d)
	}
}

func TestArmedForALaterWrite(t *testing.T) {
	for at := 1; at <= 30; at++ {
		d := made(t, 30)
		d.Arm(api.Cut{At: at, Bits: math.MaxUint64})
		for i := range at - 1 {
			written(t, d, i, text(40+i))
			if d.Down() {
				t.Fatal(at, i)
			}
		}
		refused(t, d, at-1, text(39+at), api.ErrDown)
		isDown(t, d)
		if d.Writes() != 30+at {
			t.Error(at, d.Writes())
		}
		for i := range 30 {
			if i < at {
				keeps(t, d, i, text(40 + i)[:48]+text(i)[48:])
			} else {
				keeps(t, d, i, text(i))
			}
		}
	}
}

func TestFlushedWritesStandWhereAnArmedOneFails(t *testing.T) {
	d := made(t, 3)
	d.Arm(api.Cut{At: 3, Bits: 3})
	written(t, d, 0, text(10))
	written(t, d, 1, text(11))
	flushed(t, d)
	// The third write since, and the first one of the cache: it has the first fate.
	refused(t, d, 2, text(12), api.ErrDown)
	keeps(t, d, 0, text(10))
	keeps(t, d, 1, text(11))
	keeps(t, d, 2, text(12)[:16]+text(2)[16:])
}

func TestWritesAheadOfArmAreNotCounted(t *testing.T) {
	d := made(t, 4)
	written(t, d, 0, text(10))
	written(t, d, 1, text(11))
	d.Arm(api.Cut{At: 2, Bits: 1 | 0<<3 | 5<<6 | 7<<9})
	written(t, d, 2, text(12))
	refused(t, d, 3, text(13), api.ErrDown)
	// But they are in the cache: they have their fates, from the first one on.
	keeps(t, d, 0, text(10))
	keeps(t, d, 1, text(1))
	keeps(t, d, 2, text(12)[:32]+text(2)[32:])
	keeps(t, d, 3, text(13)[:48]+text(3)[48:])
}

func TestOnlyWritesIntoTheCacheAreCounted(t *testing.T) {
	d := made(t, 2)
	d.Arm(api.Cut{At: 2, Bits: 1})
	for range 5 {
		refused(t, d, 2, text(9), api.ErrRange)
		refused(t, d, -1, text(9), api.ErrRange)
		refused(t, d, 0, "short", api.ErrArg)
		flushed(t, d)
		reads(t, d, 0, text(0))
		keeps(t, d, 0, text(0))
	}
	if d.Writes() != 2 {
		t.Error(d.Writes())
	}
	written(t, d, 0, text(10))
	refused(t, d, 2, text(9), api.ErrRange)
	refused(t, d, 1, text(9)+"x", api.ErrArg)
	flushed(t, d)
	refused(t, d, 1, text(11), api.ErrDown)
	isDown(t, d)
	if d.Writes() != 4 {
		t.Error(d.Writes())
	}
	keeps(t, d, 0, text(10))
	keeps(t, d, 1, text(11))
}

func TestArmedForNone(t *testing.T) {
	for _, at := range []int{math.MinInt, -64, -1, 0, 101, 1 << 32, math.MaxInt} {
		d := made(t, 2)
		d.Arm(api.Cut{At: at, Bits: 1})
		for i := range 100 {
			written(t, d, i%2, text(i))
		}
		if d.Down() {
			t.Error(at)
		}
		reads(t, d, 1, text(99))
		keeps(t, d, 1, text(1))
	}
}

func TestArmedAnew(t *testing.T) {
	// Later than at first: counted from the last Arm on, with its bits.
	d := made(t, 2)
	d.Arm(api.Cut{At: 2, Bits: 1})
	written(t, d, 0, text(10))
	d.Arm(api.Cut{At: 3, Bits: 3 | 3<<3 | 3<<6 | 3<<9})
	written(t, d, 0, text(11))
	written(t, d, 0, text(12))
	refused(t, d, 1, text(13), api.ErrDown)
	keeps(t, d, 0, text(12)[:16]+text(0)[16:])
	keeps(t, d, 1, text(13)[:16]+text(1)[16:])

	// Sooner.
	d = made(t, 2)
	d.Arm(api.Cut{At: 5, Bits: 1})
	d.Arm(api.Cut{At: 1, Bits: 0})
	refused(t, d, 0, text(10), api.ErrDown)
	keeps(t, d, 0, text(0))

	// No more.
	for _, at := range []int{0, -1, math.MinInt} {
		d = made(t, 2)
		d.Arm(api.Cut{At: 1, Bits: 1})
		d.Arm(api.Cut{At: at, Bits: 1})
		for range 5 {
			written(t, d, 0, text(10))
		}
		if d.Down() {
			t.Error(at)
		}
	}
}

func TestArmedWhileItIsOff(t *testing.T) {
	d := made(t, 2)
	d.Crash(0)
	d.Arm(api.Cut{At: 1, Bits: 1})
	isDown(t, d)
	d.Start()
	written(t, d, 0, text(10))
	written(t, d, 0, text(11))
	if d.Down() {
		t.Error("armed")
	}
}

// P3.2

func TestExample(t *testing.T) {
	d := fresh(t, 2)
	written(t, d, 0, text(10))
	written(t, d, 1, text(11))
	d.Crash(1)
	keeps(t, d, 0, text(10))
	keeps(t, d, 1, noughts)
}

func TestEveryFateOfACrash(t *testing.T) {
	for c, n := range []int{0, 64, 0, 16, 0, 32, 0, 48} {
		for place := range 21 {
			d := made(t, 21)
			for at := range 21 {
				written(t, d, at, text(50+at))
			}
			d.Crash(uint64(c) << (3 * place))
			isDown(t, d)
			for at := range 21 {
				if at == place {
					keeps(t, d, at, text(50 + at)[:n]+text(at)[n:])
				} else {
					keeps(t, d, at, text(at))
				}
			}
		}
	}
}

func TestTheTwentyFirstAndTheTwentySecondWrite(t *testing.T) {
	for _, c := range []struct {
		bits    uint64
		lengths [45]int // of the writes that have some
	}{
		{7 << 60, [45]int{20: 48, 41: 48}},
		{5, [45]int{0: 32, 21: 32, 42: 32}},
		{1 << 63, [45]int{}},
		{3 << 3, [45]int{1: 16, 22: 16, 43: 16}},
	} {
		d := made(t, 45)
		for at := range 45 {
			written(t, d, at, text(60+at))
		}
		d.Crash(c.bits)
		for at, n := range c.lengths {
			keeps(t, d, at, text(60 + at)[:n]+text(at)[n:])
		}
	}
}

func TestTornOverEachOther(t *testing.T) {
	d := made(t, 1)
	for i := 1; i <= 4; i++ {
		written(t, d, 0, text(i))
	}
	// 48, 16, 32 and no bytes, one over the other, in their order.
	d.Crash(7 | 3<<3 | 5<<6 | 2<<9)
	keeps(t, d, 0, text(3)[:32]+text(1)[32:48]+text(0)[48:])
}

func TestACrashForgetsTheCache(t *testing.T) {
	d := made(t, 2)
	written(t, d, 0, text(10))
	written(t, d, 1, text(11))
	d.Crash(5)
	d.Start()
	half := text(10)[:32] + text(0)[32:]
	reads(t, d, 0, half)
	reads(t, d, 1, text(1))
	flushed(t, d)
	keeps(t, d, 0, half)
	keeps(t, d, 1, text(1))
	// The next write is the first one of the cache again.
	written(t, d, 1, text(12))
	d.Crash(1)
	keeps(t, d, 1, text(12))
	keeps(t, d, 0, half)
}

func TestACrashWhileItIsOff(t *testing.T) {
	d := made(t, 1)
	written(t, d, 0, text(10))
	d.Crash(3)
	for _, bits := range []uint64{0, 1, 7, math.MaxUint64} {
		d.Crash(bits)
		isDown(t, d)
		keeps(t, d, 0, text(10)[:16]+text(0)[16:])
	}
	d.Start()
	reads(t, d, 0, text(10)[:16]+text(0)[16:])
	if d.Down() || d.Writes() != 2 {
		t.Error(d.Down(), d.Writes())
	}
}

func TestACrashOfAnEmptyCache(t *testing.T) {
	d := made(t, 3)
	d.Crash(math.MaxUint64)
	isDown(t, d)
	for at := range 3 {
		keeps(t, d, at, text(at))
	}
}

func TestStart(t *testing.T) {
	d := made(t, 2)
	d.Arm(api.Cut{At: 1, Bits: 0})
	refused(t, d, 0, text(10), api.ErrDown)
	d.Start()
	if d.Down() {
		t.Error("off")
	}
	for i := range 50 {
		written(t, d, 0, text(i))
	}
	flushed(t, d)
	keeps(t, d, 0, text(49))
	// A Crash ahead of the write that was armed: behind a Start it isn't any more.
	d.Arm(api.Cut{At: 1, Bits: 1})
	d.Crash(0)
	d.Start()
	written(t, d, 1, text(3))
	reads(t, d, 1, text(3))
}

func TestStartWhileItIsOn(t *testing.T) {
	d := made(t, 2)
	d.Arm(api.Cut{At: 2, Bits: 1})
	written(t, d, 0, text(10))
	d.Start()
	if d.Down() {
		t.Error("off")
	}
	// It isn't armed any more; the cache is as it was.
	written(t, d, 1, text(11))
	reads(t, d, 0, text(10))
	keeps(t, d, 0, text(0))
	d.Crash(5 | 3<<3)
	keeps(t, d, 0, text(10)[:32]+text(0)[32:])
	keeps(t, d, 1, text(11)[:16]+text(1)[16:])
}

func TestWhatIsToldWhileItIsOff(t *testing.T) {
	d := made(t, 3)
	d.Crash(0)
	for at := range 3 {
		keeps(t, d, at, text(at))
	}
	for _, at := range outside(3) {
		keeps(t, d, at, "")
	}
	isDown(t, d)
	if d.Len() != 3 || d.Writes() != 3 {
		t.Error(d.Len(), d.Writes())
	}
}

func TestFate(t *testing.T) {
	for c, want := range []int{0, 64, 0, 16, 0, 32, 0, 48} {
		for i := range 21 {
			bits := uint64(c) << (3 * i)
			// Around the three bits all the others, which change nothing.
			around := bits | ^(uint64(7) << (3 * i))
			for _, j := range []int{i, i + 21, i + 42, i + 21*1000, i + 21*(1<<50)} {
				if Fate(bits, j) != want || Fate(around, j) != want {
					t.Error(c, j, Fate(bits, j), Fate(around, j))
				}
			}
		}
	}
	// The highest bit is nobody's.
	for i := range 64 {
		if n := Fate(1<<63, i); n != 0 {
			t.Error(i, n)
		}
	}
	// 2^63 - 1 is 7 mod 21.
	if n := Fate(5<<21, math.MaxInt); n != 32 {
		t.Error(n)
	}
}

func TestFateBelowNought(t *testing.T) {
	for _, i := range []int{-1, -2, -20, -21, -22, -42, -1 << 32, math.MinInt + 1, math.MinInt} {
		for _, bits := range []uint64{0, 1, 7, math.MaxUint64, 0x1249249249249249} {
			if n := Fate(bits, i); n != 0 {
				t.Error(bits, i, n)
			}
		}
	}
}

func TestNilDisk(t *testing.T) {
	var d *Disk
	d.Arm(api.Cut{At: 1, Bits: 1})
	d.Crash(1)
	if d.Down() {
		t.Error("off")
	}
	d.Start()
	refused(t, d, 0, text(0), api.ErrNil)
	unread(t, d, 0, api.ErrNil)
	if e := d.Flush(); e != api.ErrNil {
		t.Error(e)
	}
	for _, at := range append(outside(1), 0, 1) {
		keeps(t, d, at, "")
	}
	if d.Len() != 0 || d.Writes() != 0 || d.Down() {
		t.Error(d.Len(), d.Writes(), d.Down())
	}
}

// plain is a disk as the chapter tells it: a list of writes, and none of them sought by anything but their order.
type plain struct {
	kept   []string
	at     []int
	texts  []string
	since  int
	writes int
	armed  api.Cut
	down   bool
}

// plainFate is the chapter's table, bit by bit.
func plainFate(bits uint64, i int) int {
	c := 0
	for b := range 3 {
		c += int(bits>>(3*(i%21)+b)%2) << b
	}
	return [8]int{1: 64, 3: 16, 5: 32, 7: 48}[c]
}

func (p *plain) fail(bits uint64) {
	if p.down {
		return
	}
	for i, at := range p.at {
		n := plainFate(bits, i)
		p.kept[at] = p.texts[i][:n] + p.kept[at][n:]
	}
	p.at, p.texts, p.down = nil, nil, true
}

func (p *plain) write(at int, s string) api.Errno {
	if p.down {
		return api.ErrDown
	}
	if at < 0 || at >= len(p.kept) {
		return api.ErrRange
	}
	if len(s) != 64 {
		return api.ErrArg
	}
	p.at, p.texts = append(p.at, at), append(p.texts, s)
	p.writes++
	p.since++
	if p.armed.At > 0 && p.since == p.armed.At {
		p.fail(p.armed.Bits)
		return api.ErrDown
	}
	return api.OK
}

func (p *plain) flush() api.Errno {
	if p.down {
		return api.ErrDown
	}
	for i, at := range p.at {
		p.kept[at] = p.texts[i]
	}
	p.at, p.texts = nil, nil
	return api.OK
}

func (p *plain) read(at int) (string, api.Errno) {
	if p.down {
		return "", api.ErrDown
	}
	if at < 0 || at >= len(p.kept) {
		return "", api.ErrRange
	}
	s := p.kept[at]
	for i, other := range p.at {
		if other == at {
			s = p.texts[i]
		}
	}
	return s, api.OK
}

func (p *plain) arm(c api.Cut) { p.armed, p.since = c, 0 }

// step does one thing with both disks, and tells whether they answered the same.
func step(r *rand.Rand, d *Disk, p *plain) bool {
	at := r.Intn(p.len()+2) - 1
	switch r.Intn(24) {
	case 0:
		return d.Flush() == p.flush()
	case 1:
		bits := r.Uint64()
		d.Crash(bits)
		p.fail(bits)
	case 2, 3, 4:
		d.Start()
		p.down = false
		p.arm(api.Cut{})
	case 5:
		c := api.Cut{At: r.Intn(40) - 5, Bits: r.Uint64()}
		d.Arm(c)
		p.arm(c)
	case 6:
		s := text(r.Int())[:r.Intn(64)]
		return d.Write(at, s) == p.write(at, s)
	default:
		s := text(r.Int())
		return d.Write(at, s) == p.write(at, s)
	}
	return true
}

func (p *plain) len() int { return len(p.kept) }

// same: do both disks tell the same of all places?
func same(d *Disk, p *plain) bool {
	if d.Len() != p.len() || d.Down() != p.down || d.Writes() != p.writes || d.Kept(-1) != "" || d.Kept(p.len()) != "" {
		return false
	}
	for at := -1; at <= p.len(); at++ {
		s, e := d.Read(at)
		if want, f := p.read(at); s != want || e != f {
			return false
		}
	}
	for at, s := range p.kept {
		if d.Kept(at) != s {
			return false
		}
	}
	return true
}

func TestAsThePlainDisk(t *testing.T) {
	for seed := range int64(60) {
		r := rand.New(rand.NewSource(seed))
		n := 1 + r.Intn(6)
		d, p := fresh(t, n), &plain{kept: slices.Repeat([]string{noughts}, n)}
		for i := range 500 {
			if !step(r, d, p) || !same(d, p) {
				t.Fatal(seed, i)
			}
		}
	}
}

func TestReadingDoesNotSearchALongCache(t *testing.T) {
	// A search of the cache at each read would be 2^35 steps.
	d := made(t, 2)
	for i := range 1 << 16 {
		written(t, d, 0, text(i))
	}
	for range 1 << 19 {
		if s, e := d.Read(1); len(s) != 64 || e != api.OK {
			t.Fatal(len(s), e)
		}
	}
	reads(t, d, 0, text(1<<16-1))
	reads(t, d, 1, text(1))
}
