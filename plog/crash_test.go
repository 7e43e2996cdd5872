package plog

import (
	"math"
	"math/rand"
	"slices"
	"strings"
	"testing"

	"lockage/api"
	"lockage/disk"
)

// allWhole are bits by which every write that wasn't flushed is kept.
const allWhole = 0o111111111111111111111

// someBits are bits by which the first writes are kept, lost and torn in all ways, the later ones in several.
func someBits() []uint64 {
	list := []uint64{0, allWhole, math.MaxUint64, 0o333333333333333333333, 0o555555555555555555555, 0o101010101010101010101, 0o010101010101010101010}
	for bits := range uint64(512) {
		list = append(list, bits, bits<<9|0o111, bits|allWhole&^0o777)
	}
	return list
}

// whole: are all of the first n writes kept whole?
func whole(bits uint64, n int) bool {
	for i := range n {
		if disk.Fate(bits, i) != 64 {
			return false
		}
	}
	return true
}

// used is a disk with a log of half 5 at 1, both of whose halves were laid over and over, up to a gen, with a record that takes a sector.
func used(t *testing.T, gen int) (*disk.Disk, *Log) {
	t.Helper()
	d := fresh(t, 12)
	l := opened(t, d, 1, 5, 1)
	for l.Gen() < gen {
		appended(t, l, "", "A"+bytesOf(l.Gen()))
		for l.Gen() < gen && l.Room() > 0 {
			appended(t, l, "stale"+bytesOf(l.Room()), "")
		}
	}
	if gen > 0 {
		appended(t, l, "a", "")
	}
	return d, opened(t, d, 1, 5, 2)
}

// fails lets the power fail at an Append's write; what is told stays as it was.
func fails(t *testing.T, d *disk.Disk, l *Log, cut api.Cut, rec, after string) {
	t.Helper()
	was := tell(l)
	d.Arm(cut)
	if e := l.Append(rec, after); e != api.ErrDown || !d.Down() {
		t.Fatal(cut, e, d.Down())
	}
	if !tell(l).is(was) {
		t.Errorf("%#v, not %#v", tell(l), was)
	}
	d.Start()
}

// P5.3

func TestThePowerFailsInARecord(t *testing.T) {
	for gen := 1; gen <= 5; gen++ {
		for _, rec := range []string{"", "r", filling(1), filling(2), filling(3)} {
			n := Sectors(rec)
			for at := 1; at <= n; at++ {
				for _, bits := range someBits() {
					d, l := used(t, gen)
					was := tell(l)
					fails(t, d, l, api.Cut{At: at, Bits: bits}, rec, "after")
					want := was
					if at == n && whole(bits, n) {
						want.records, want.room = append(slices.Clone(was.records), rec), was.room-n
					}
					goesOn(t, d, want)
				}
			}
		}
	}
}

func TestThePowerFailsInABeginning(t *testing.T) {
	for gen := range 5 {
		for _, after := range []string{"", "B", filling(1), filling(2), filling(5)} {
			n := Sectors(after)
			for at := 1; at <= n; at++ {
				for _, bits := range someBits() {
					d, l := used(t, gen)
					want := tell(l)
					fails(t, d, l, api.Cut{At: at, Bits: bits}, filling(5), after)
					if at == n && whole(bits, n) {
						want = told{gen: gen + 1, begin: after, room: 5 - n}
					}
					goesOn(t, d, want)
				}
			}
		}
	}
}

// goesOn opens what the failure left, twice, and appends to it.
func goesOn(t *testing.T, d *disk.Disk, want told) {
	t.Helper()
	stands(t, d, 1, 5, want.gen, want.begin, want.room, want.records...)
	l := opened(t, d, 1, 5, 3)
	if !tell(l).is(want) {
		t.Errorf("%#v, not %#v", tell(l), want)
	}
	// A record, and a beginning, over what is left of the one that failed.
	if want.room > 0 {
		appended(t, l, "more", "")
		stands(t, d, 1, 5, want.gen, want.begin, want.room-1, append(slices.Clone(want.records), "more")...)
	}
	appended(t, l, filling(5), "anew")
	stands(t, d, 1, 5, want.gen+1, "anew", 4)
}

func TestThePowerFailsBehindAnAppend(t *testing.T) {
	for _, bits := range someBits() {
		d, l := used(t, 2)
		was := tell(l)
		// Armed for the write behind its last one: it is whole, and the next one fails.
		d.Arm(api.Cut{At: 3, Bits: bits})
		appended(t, l, filling(2), "B")
		was.records, was.room = append(was.records, filling(2)), was.room-2
		if !tell(l).is(was) {
			t.Errorf("%#v, not %#v", tell(l), was)
		}
		if e := l.Append(filling(2), "B"); e != api.ErrDown {
			t.Fatal(e)
		}
		d.Start()
		if m := tell(opened(t, d, 1, 5, 3)); whole(bits, 1) {
			if !m.is(told{3, "B", 4, nil}) {
				t.Errorf("%#v", m)
			}
		} else if !m.is(was) {
			t.Errorf("%#v, not %#v", m, was)
		}
	}
}

func TestTheyAreWrittenOneByOne(t *testing.T) {
	for _, c := range []struct {
		rec, after string
		at         int
		lays       []string
	}{
		{filling(3), "B", 3, plainLay(filling(3), 2<<32+1, 1, 1+1)},
		{filling(5), filling(4), 6, plainLay(filling(4), 2<<32+1, 2, 0)},
	} {
		for n := 1; n <= len(c.lays); n++ {
			// The first n of them are written, from the front on, and nothing else.
			d, l := used(t, 1)
			was, writes := kept(d), d.Writes()
			fails(t, d, l, api.Cut{At: n, Bits: allWhole}, c.rec, c.after)
			holds(t, d, was, c.at, c.lays[:n]...)
			if d.Writes() != writes+n {
				t.Error(n, d.Writes()-writes)
			}
			// None of them is flushed ahead of the last one.
			d, l = used(t, 1)
			fails(t, d, l, api.Cut{At: n, Bits: 0}, c.rec, c.after)
			holds(t, d, was, 0)
		}
	}
}

func TestWhatIsTornTwice(t *testing.T) {
	// What one failure left, and what another one did, never go together, however they are torn.
	for first := range uint64(64) {
		for second := range uint64(64) {
			d, l := used(t, 1)
			was := tell(l)
			rec := filling(2)
			fails(t, d, l, api.Cut{At: 2, Bits: first}, rec, "")
			l = opened(t, d, 1, 5, 3)
			if tell(l).is(was) {
				fails(t, d, l, api.Cut{At: 2, Bits: second}, rec, "")
			} else if !whole(first, 2) {
				t.Errorf("%o: %#v", first, tell(l))
			}
			want := was
			if whole(first, 2) || whole(second, 2) {
				want.records, want.room = append(slices.Clone(was.records), rec), was.room-2
			}
			if m := tell(opened(t, d, 1, 5, 4)); !m.is(want) {
				t.Errorf("%o %o: %#v, not %#v", first, second, m, want)
			}
		}
	}
}

func TestALongBeginningIsTorn(t *testing.T) {
	// More writes than bits tell fates of: they begin anew behind the 21st.
	const n = 50
	for _, bits := range []uint64{0, allWhole, allWhole &^ 0o7, allWhole &^ (0o7 << 60), allWhole | 0o2, math.MaxUint64} {
		d := fresh(t, 2*n)
		l := opened(t, d, 0, n, 1)
		appended(t, l, "", "A")
		fails(t, d, l, api.Cut{At: n, Bits: bits}, filling(n), filling(n))
		if whole(bits, n) {
			stands(t, d, 0, n, 2, filling(n), 0)
		} else {
			stands(t, d, 0, n, 1, "A", n-1)
		}
	}
}

// walk appends texts of any lengths, while the power fails now and then, and holds what is opened against what may be there.
func walk(t *testing.T, r *rand.Rand, d *disk.Disk, half, steps int) (failed, taken int) {
	t.Helper()
	boot := uint32(1)
	l := opened(t, d, 0, half, boot)
	for range steps {
		rec, after := bytesOf(r.Intn(37*half)), bytesOf(r.Intn(37*half+1))
		was := tell(l)
		with := told{was.gen + 1, after, half - Sectors(after), nil}
		if Sectors(rec) <= was.room {
			with = told{was.gen, was.begin, was.room - Sectors(rec), append(was.records, rec)}
		}
		switch r.Intn(4) {
		case 0:
			d.Arm(api.Cut{At: 1 + r.Intn(half), Bits: r.Uint64()})
		case 1:
			d.Arm(api.Cut{At: 1 + r.Intn(half), Bits: allWhole})
		}
		e := l.Append(rec, after)
		d.Arm(api.Cut{})
		if e == api.OK {
			if !tell(l).is(with) {
				t.Fatalf("%#v, not %#v", tell(l), with)
			}
			if r.Intn(3) > 0 {
				continue
			}
			was = with
			d.Crash(r.Uint64())
		} else if e != api.ErrDown || !tell(l).is(was) {
			t.Fatalf("%v: %#v, not %#v", e, tell(l), was)
		} else {
			failed++
		}
		d.Start()
		boot++
		l = opened(t, d, 0, half, boot)
		if m := tell(l); m.is(with) {
			taken++
		} else if !m.is(was) {
			t.Fatalf("%#v, neither %#v nor %#v", m, was, with)
		}
		if want := plainOpen(d, 0, half); !tell(l).is(want) {
			t.Fatalf("%#v, not %#v", tell(l), want)
		}
	}
	return failed, taken
}

func TestWalks(t *testing.T) {
	r := rand.New(rand.NewSource(7))
	failed, taken := 0, 0
	for round := range 400 {
		half := 1 + r.Intn(8)
		d := fresh(t, 2*half)
		if round%2 == 1 {
			for at := range 2 * half {
				put(t, d, at, strings.Repeat(string([]byte{byte(r.Intn(256))}), 64))
			}
		}
		f, k := walk(t, r, d, half, 60)
		failed, taken = failed+f, taken+k
	}
	if failed < 1000 || taken < 1000 {
		t.Error("too few of some kind", failed, taken)
	}
}
