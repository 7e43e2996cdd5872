package lease

import (
	"fmt"
	"math"
	"math/big"
	"math/rand"
	"regexp"
	"testing"

	"lockage/api"
	"lockage/codec"
)

// The plain ways: a try is its six numbers by their names, and a call is a list of what becomes of them.

type named map[string]int

// names are in the order in which the numbers are written.
var names = []string{"state", "since", "missed", "worker", "lease", "until"}

func namedOf(t Try) named {
	return named{"state": t.State, "since": t.Since, "missed": t.Missed, "worker": t.Worker, "lease": t.Lease, "until": t.Until}
}

func (n named) try() Try {
	return Try{State: n["state"], Since: n["since"], Missed: n["missed"], Worker: n["worker"], Lease: n["lease"], Until: n["until"]}
}

// with is the same, but for some numbers.
func (n named) with(changes named) named {
	all := named{}
	for name, number := range n {
		all[name] = number
	}
	for name, number := range changes {
		all[name] = number
	}
	return all
}

// plainWrongs is how many things speak against a try.
func plainWrongs(n named) int {
	most := named{"state": 4, "since": 1000000, "missed": 6, "worker": 1000000, "lease": 1000000, "until": 1000000}
	only := named{"since": 1, "worker": 2, "lease": 2, "until": 2}
	wrongs := 0
	for _, name := range names {
		if n[name] < 0 || n[name] > most[name] {
			wrongs++
		}
		if state, has := only[name]; has && n["state"] != state && n[name] != 0 {
			wrongs++
		}
	}
	return wrongs
}

func plainOpen(n named, now int) named {
	switch n["state"] {
	case 0:
		return n.with(named{"state": 1, "since": now})
	default:
		return n
	}
}

func plainMiss(n named, at, retry int) named {
	if n["state"] != 2 {
		return n
	}
	again := n.with(named{"missed": n["missed"] + 1, "worker": 0, "lease": 0, "until": 0})
	if retry < again["missed"] {
		return again.with(named{"state": 4, "since": 0})
	}
	return again.with(named{"state": 1, "since": at + again["missed"]})
}

// plainSettle lets the time go on tick by tick, where it is near.
func plainSettle(n named, now, retry int) named {
	if now-n["until"] > 50 || n["until"]-now > 50 {
		if now < n["until"] || n["state"] != 2 {
			return n
		}
		return plainMiss(n, n["until"], retry)
	}
	for tick := n["until"]; tick <= now; tick++ {
		if n["state"] == 2 {
			n = plainMiss(n, tick, retry)
		}
	}
	return n
}

func plainDone(n named) named {
	if n["state"] == 1 || n["state"] == 2 {
		return named{"state": 3, "missed": n["missed"]}
	}
	return n
}

func plainTake(n named, now, worker, lease, time int) (named, api.Errno) {
	if n["state"] == 1 && now >= n["since"] {
		return named{"state": 2, "missed": n["missed"], "worker": worker, "lease": lease, "until": now + time}, api.OK
	}
	return named{}, api.ErrState
}

func plainHolds(n named, now, worker, lease int) bool {
	wrongs := 0
	for _, not := range []bool{n["state"] != 2, n["worker"] != worker, n["lease"] != lease, now >= n["until"]} {
		if not {
			wrongs++
		}
	}
	return wrongs == 0
}

func plainBeat(n named, now, time int) named {
	if n["state"] == 2 {
		return n.with(named{"until": now + time})
	}
	return n
}

func plainText(n named) string {
	s := ""
	for _, name := range names {
		s += fmt.Sprintf("%d,", n[name])
	}
	return s
}

var sixNumbers = regexp.MustCompile(`^(0|-?[1-9][0-9]*),(0|-?[1-9][0-9]*),(0|-?[1-9][0-9]*),(0|-?[1-9][0-9]*),(0|-?[1-9][0-9]*),(0|-?[1-9][0-9]*),`)

// plainRead is the try in front of a text, and what stands behind it.
func plainRead(s string) (named, string, bool) {
	found := sixNumbers.FindStringSubmatch(s)
	if found == nil {
		return named{}, "", false
	}
	n := named{}
	for i, name := range names {
		number, _ := new(big.Int).SetString(found[i+1], 10)
		if !number.IsInt64() {
			return named{}, "", false
		}
		n[name] = int(number.Int64())
	}
	if plainWrongs(n) > 0 {
		return named{}, "", false
	}
	return n, s[len(found[0]):], true
}

// counts tells how often each kind was met.
type counts map[string]int

func (c counts) enough(t *testing.T, least int, kinds ...string) {
	t.Helper()
	for _, kind := range kinds {
		if c[kind] < least {
			t.Errorf("%s: hardly held against each other: %d", kind, c[kind])
		}
	}
}

// against holds all calls of a try against the plain ones.
func against(t *testing.T, met counts, c Try, now, by, number, time, retry int) {
	t.Helper()
	n := namedOf(c)
	told := func(call string, got, want Try) {
		if got != want {
			t.Fatalf("%s of %v, %d %d %d %d %d: %v, not %v", call, c, now, by, number, time, retry, got, want)
		}
		if got != c {
			met[call]++
		}
	}
	if Right(c) != (plainWrongs(n) == 0) {
		t.Fatal("Right", c)
	}
	if Right(c) {
		met["right"]++
	} else {
		met["not right"]++
	}
	told("Open", Open(c, now), plainOpen(n, now).try())
	told("Miss", Miss(c, now, retry), plainMiss(n, now, retry).try())
	told("Settle", Settle(c, now, retry), plainSettle(n, now, retry).try())
	told("Beat", Beat(c, now, time), plainBeat(n, now, time).try())
	told("Done", Done(c), plainDone(n).try())
	got, e := Take(c, now, by, number, time)
	want, wantE := plainTake(n, now, by, number, time)
	told("Take", got, want.try())
	if e != wantE {
		t.Fatal("Take", c, now, e)
	}
	met["Take: "+e.Error()]++
	if Holds(c, now, by, number) != plainHolds(n, now, by, number) {
		t.Fatal("Holds", c, now, by, number)
	}
	if Holds(c, now, by, number) {
		met["holds"]++
	} else {
		met["holds not"]++
	}
	written(t, met, c)
}

// written holds what is written of a try, and what is read of that, against the plain ways.
func written(t *testing.T, met counts, c Try) {
	t.Helper()
	var w codec.Writer
	Write(&w, c)
	if w.String() != plainText(namedOf(c)) {
		t.Fatalf("Write of %v: %q", c, w.String())
	}
	readAgainst(t, met, w.String())
}

// readAgainst holds what is read of a text against the plain way.
func readAgainst(t *testing.T, met counts, s string) {
	t.Helper()
	n, behind, is := plainRead(s)
	r := codec.NewReader(s)
	if got := Read(r); got != n.try() || r.Ok() != is || r.Done() != (is && behind == "") {
		t.Fatalf("Read of %q: %v, not %v; %v %v", s, got, n, r.Ok(), r.Done())
	}
	if !is {
		met["not read"]++
		return
	}
	met["read"]++
	// It goes on with what is behind it.
	left := codec.NewReader(behind)
	if r.Int(math.MinInt, math.MaxInt) != left.Int(math.MinInt, math.MaxInt) || r.Ok() != left.Ok() || r.Done() != left.Done() {
		t.Fatalf("Read of %q: behind it", s)
	}
}

// All small tries at all small times.
func TestSmallTries(t *testing.T) {
	met := counts{}
	for state := -1; state <= 5; state++ {
		for since := -1; since <= 2; since++ {
			for missed := -1; missed <= 2; missed++ {
				for holder := range 8 {
					c := Try{State: state, Since: since, Missed: missed, Worker: holder & 1, Lease: holder >> 1 & 1, Until: holder >> 2 & 1 * 2}
					for now := -1; now <= 3; now++ {
						for retry := -1; retry <= 3; retry++ {
							against(t, met, c, now, retry&1, now&1, retry, retry)
						}
					}
				}
			}
		}
	}
	met.enough(t, 100, "Open", "Miss", "Settle", "Beat", "Done", "Take", "Take: ok", "Take: state", "holds", "holds not", "right", "not right", "read", "not read")
}

// someNumber is small, at an edge, or anything that a time may be.
func someNumber(dice *rand.Rand) int {
	edges := []int{-1, 0, 1, 5, 6, 7, 999999, 1000000, 1000001, -1 << 40, 1 << 40}
	switch dice.Intn(5) {
	case 0:
		return edges[dice.Intn(len(edges))]
	case 1:
		return dice.Intn(2000001) - 500000
	}
	return dice.Intn(9)
}

// someTry is one that may be, or one a number of which is some other one.
func someTry(dice *rand.Rand) Try {
	c := Try{State: dice.Intn(5), Missed: dice.Intn(7)}
	size := []int{4, 20, 1000001}[dice.Intn(3)]
	switch c.State {
	case 1:
		c.Since = dice.Intn(size)
	case 2:
		c.Worker, c.Lease, c.Until = dice.Intn(size), dice.Intn(size), dice.Intn(size)
	}
	if dice.Intn(3) == 0 {
		n := someNumber(dice)
		*[]*int{&c.State, &c.Since, &c.Missed, &c.Worker, &c.Lease, &c.Until}[dice.Intn(6)] = n
	}
	return c
}

func TestRandomTries(t *testing.T) {
	dice := rand.New(rand.NewSource(11))
	met := counts{}
	for range 60000 {
		c := someTry(dice)
		now, by, number := someNumber(dice), someNumber(dice), someNumber(dice)
		if dice.Intn(2) == 0 {
			now = []int{c.Since, c.Until}[dice.Intn(2)] + dice.Intn(5) - 2
		}
		if dice.Intn(2) == 0 {
			by, number = c.Worker, c.Lease
		}
		against(t, met, c, now, by, number, someNumber(dice), dice.Intn(9)-1)
	}
	met.enough(t, 1000, "Open", "Miss", "Settle", "Beat", "Done", "Take", "Take: ok", "Take: state", "holds", "holds not", "right", "not right", "read", "not read")
}

// Right at the edges of all numbers together.
func TestRightAtAllEdges(t *testing.T) {
	edges := []int{math.MinInt, -1, 0, 1, 1000000, 1000001, math.MaxInt}
	met := counts{}
	for state := -1; state <= 5; state++ {
		for _, missed := range []int{math.MinInt, -1, 0, 6, 7, math.MaxInt} {
			for _, since := range edges {
				for _, worker := range edges {
					for _, lease := range edges {
						for _, until := range edges {
							c := Try{State: state, Since: since, Missed: missed, Worker: worker, Lease: lease, Until: until}
							wrongs := plainWrongs(namedOf(c))
							if Right(c) != (wrongs == 0) {
								t.Fatal(c, wrongs)
							}
							met[fmt.Sprint(min(wrongs, 2))]++
						}
					}
				}
			}
		}
	}
	met.enough(t, 50, "0", "1", "2")
}

// Texts of tries, with a byte changed, left out, or put in, and others behind them.
func TestChangedTexts(t *testing.T) {
	dice := rand.New(rand.NewSource(12))
	met := counts{}
	bytes := "0123456789,,,-+ x"
	for range 60000 {
		s := []byte(plainText(namedOf(someTry(dice))))
		at, b := dice.Intn(len(s)), bytes[dice.Intn(len(bytes))]
		switch dice.Intn(5) {
		case 0:
			s[at] = b
		case 1:
			s = append(s[:at], s[at+1:]...)
		case 2:
			s = append(s[:at+1], s[at:]...)
			s[at] = b
		case 3:
			s = append(s, b, ',')
		}
		readAgainst(t, met, string(s))
	}
	met.enough(t, 5000, "read", "not read")
}

// P6.2 of tries: one that may be is read as it was written, whatever stands behind it; one that may not be isn't.
func TestReadAsWritten(t *testing.T) {
	dice := rand.New(rand.NewSource(13))
	for range 20000 {
		list := []Try{someTry(dice), someTry(dice), someTry(dice)}
		var w codec.Writer
		for i, c := range list {
			Write(&w, c)
			w.Text("behind"[:i])
		}
		r := codec.NewReader(w.String())
		right := true
		for i, c := range list {
			want := c
			if right = right && Right(c); !right {
				want = Try{}
			}
			if got := Read(r); got != want || r.Ok() != right {
				t.Fatal(list, i, got)
			}
			r.Text(9)
		}
		if r.Done() != right {
			t.Fatal(list, right)
		}
	}
}

// P11.4, of all tries that may be: settled at one time, and then at a later one.
func TestSettledAtTwoTimes(t *testing.T) {
	dice := rand.New(rand.NewSource(14))
	met := counts{}
	for range 60000 {
		c := someTry(dice)
		if !Right(c) {
			continue
		}
		retry := dice.Intn(8) - 1
		first := c.Until + dice.Intn(9) - 6
		second := first + dice.Intn(8)
		early, late := Settle(c, first, retry), Settle(c, second, retry)
		if got := Settle(early, second, retry); got != late {
			t.Fatal(c, first, second, retry, got, late)
		}
		if Settle(early, first, retry) != early {
			t.Fatal("twice at one time", c, first, retry)
		}
		if Holds(c, first, c.Worker, c.Lease) {
			met["held"]++
			if early != c {
				t.Fatal("lost ahead of his time", c, first, early)
			}
		}
		switch {
		case early != c:
			met["early"]++
		case late != c:
			met["between"]++
		case c.State == SHeld:
			met["later"]++
		}
		if late != c {
			met[fmt.Sprint("state ", late.State)]++
		}
	}
	met.enough(t, 500, "held", "early", "between", "later", "state 1", "state 4")
}

// Walks of a task from one state to another: what may be stays so, while times and numbers are small.
func TestWalks(t *testing.T) {
	dice := rand.New(rand.NewSource(15))
	met := counts{}
	for range 3000 {
		retry := dice.Intn(api.MaxRetry + 1)
		c, n, now := Try{}, named{}, 0
		for lease := 1; lease <= 40; lease++ {
			now += dice.Intn(4)
			by, time := dice.Intn(3), dice.Intn(4)+1
			was := c.State
			c, n = Settle(c, now, retry), plainSettle(n, now, retry)
			switch dice.Intn(12) {
			case 0, 1:
				c, n = Open(c, now), plainOpen(n, now)
			case 2, 3, 4, 5:
				next, e := Take(c, now, by, lease, time)
				want, wantE := plainTake(n, now, by, lease, time)
				if next != want.try() || e != wantE {
					t.Fatal(c, now, next, e)
				}
				if e == api.OK {
					c, n = next, want
					if !Holds(c, now, by, lease) || !Holds(c, now+time-1, by, lease) || Holds(c, now+time, by, lease) {
						t.Fatal("taken, but not held", c, now)
					}
				}
			case 6, 7:
				c, n = Beat(c, now, time), plainBeat(n, now, time)
			case 8:
				c, n = Miss(c, now, retry), plainMiss(n, now, retry)
			case 9:
				if dice.Intn(4) == 0 {
					c, n = Done(c), plainDone(n)
				}
			}
			if c != n.try() || !Right(c) || c.Missed > retry+1 || (c.State == SFailed) != (c.Missed > retry) {
				t.Fatal(c, n, now)
			}
			if c.State != was {
				met[fmt.Sprintf("%d to %d", was, c.State)]++
			}
		}
	}
	met.enough(t, 200, "0 to 1", "1 to 2", "2 to 1", "2 to 4", "1 to 3", "2 to 3")
	if met["3 to 1"]+met["3 to 2"]+met["3 to 4"]+met["4 to 1"]+met["4 to 2"]+met["4 to 3"]+met["1 to 0"] > 0 {
		t.Error(met)
	}
}
