package part

import (
	"errors"
	"math"
	"slices"
	"strconv"
	"strings"
	"testing"

	"lockage/api"
	"lockage/check"
	"lockage/codec"
	"lockage/lexer"
	"lockage/manifest"
	"lockage/roster"
)

// The partitions of the roster.
const (
	low   = 0 // 0:0000
	own   = 1 // 3:0001, of which most tests are
	aside = 2 // 3:0002
	high  = 3 // 5:0003, above them all
	parts = 4
)

// The principals of the roster.
const (
	ann    = 0 // of own, as bob, cid and dan: may let go to low and aside
	bob    = 1
	cid    = 2
	dan    = 3
	eve    = 4 // of own: may let go nothing
	flo    = 5 // of own: may let go to aside alone
	gus    = 6 // of low, may let go what is of low already
	hal    = 7 // of aside: may let go nothing
	ivy    = 8 // of high: may let go all
	nobody = 9
)

var (
	labels = []api.Label{{}, {Level: 3, Set: 1}, {Level: 3, Set: 2}, {Level: 5, Set: 3}}
	all    = api.Label{Level: 7, Set: math.MaxUint16}
	people = []api.Person{
		{Part: own, Auth: api.Label{Level: 3, Set: 1}}, {Part: own, Auth: api.Label{Level: 3, Set: 1}}, {Part: own, Auth: api.Label{Level: 4, Set: 3}}, {Part: own, Auth: all},
		{Part: own}, {Part: own, Auth: api.Label{Set: 1}}, {Part: low}, {Part: aside}, {Part: high, Auth: all},
	}
)

// rosterOf is one that may be.
func rosterOf(t testing.TB, labels []api.Label, people []api.Person) *roster.Roster {
	t.Helper()
	r, e := roster.New(labels, people)
	if e != api.OK {
		t.Fatal(e)
	}
	return r
}

// fresh is the partition own, without runs.
func fresh(t testing.TB) *Part {
	t.Helper()
	p := New(rosterOf(t, labels, people), own)
	if p == nil {
		t.Fatal("none")
	}
	return p
}

// The commands, by short names.

func submit(key, text string) api.Command {
	return api.Command{Kind: api.CSubmit, Key: key, Text: text}
}

func poll(who int) api.Command { return api.Command{Kind: api.CPoll, Who: who} }

func complete(who, n int, text string) api.Command {
	return api.Command{Kind: api.CComplete, Who: who, N: n, Text: text}
}

func fail(who, n int) api.Command { return api.Command{Kind: api.CFail, Who: who, N: n} }

func beat(who, n int) api.Command { return api.Command{Kind: api.CBeat, Who: who, N: n} }

func approve(who, n, task int) api.Command {
	return api.Command{Kind: api.CApprove, Who: who, N: n, Task: task}
}

func deny(who, n, task int) api.Command {
	return api.Command{Kind: api.CDeny, Who: who, N: n, Task: task}
}

func cancel(n int) api.Command { return api.Command{Kind: api.CCancel, N: n} }

// The answers, by short names.

func wrong(e api.Errno) api.Answer { return api.Answer{Err: e} }

func number(n int) api.Answer { return api.Answer{N: n} }

func fault(e api.Errno, at int) api.Answer { return api.Answer{Err: e, N: at} }

func taken(lease int, text string) api.Answer { return api.Answer{N: lease, Text: text} }

var fine = api.Answer{}

// do does a command, and holds the answer against what it should be: with an error nothing may change.
func do(t testing.TB, p *Part, now int, c api.Command, want api.Answer) *api.Release {
	t.Helper()
	was, status := p.Text(), p.Status(now)
	answer, release := p.Do(now, c)
	if answer != want {
		t.Fatalf("%d: %v: %v, not %v", now, c, answer, want)
	}
	if want.Err != api.OK && (p.Text() != was || p.Status(now) != status || release != nil) {
		t.Fatalf("%d: %v: %q, not %q; %v", now, c, p.Text(), was, release)
	}
	return release
}

// keeps does a command that lets nothing go.
func keeps(t testing.TB, p *Part, now int, c api.Command, want api.Answer) {
	t.Helper()
	if release := do(t, p, now, c, want); release != nil {
		t.Fatalf("%d: %v: %v", now, c, *release)
	}
}

// goes does a command that lets something go.
func goes(t testing.TB, p *Part, now int, c api.Command, want api.Release) {
	t.Helper()
	release := do(t, p, now, c, number(1))
	if release == nil || *release != want {
		t.Fatalf("%d: %v: %v, not %v", now, c, release, want)
	}
}

// stands holds how all runs stand at a time against what it should be.
func stands(t testing.TB, p *Part, now int, want string) {
	t.Helper()
	if got := p.Status(now); got != want {
		t.Fatalf("%d: %q, not %q", now, got, want)
	}
}

// stays is a call that changes nothing.
func stays(t testing.TB, p *Part, what string, call func()) {
	t.Helper()
	was := p.Text()
	call()
	if got := p.Text(); got != was {
		t.Errorf("%s: %q, not %q", what, got, was)
	}
}

// key is one of as many as are needed, each another one.
func key(i int) string { return "k" + string(rune('a'+i/26)) + string(rune('a'+i%26)) }

// The manifests.
const (
	single = "pipe s\ntask a time 4"
	again  = "pipe r\ntask a time 3 retry 2"
	gated  = "pipe g\ntask a time 3\ngate g after a to 0:0000 need 2 time 6\ntask b after g"
	easy   = "pipe e\ntask a time 3\ngate g after a to 0:0000 need 1 time 6\ntask b after g"
	sides  = "pipe z\ntask a time 3\ngate g after a to 3:0002 need 1 time 6"
)

// gateAt is the place of the gate in gated, easy and sides.
const gateAt = 1

// opened is own with one run of a manifest, whose task a was completed, so that its gate is open from a time on; one lease there was.
func opened(t testing.TB, text string, now int, out string) *Part {
	t.Helper()
	p := fresh(t)
	keeps(t, p, now, submit("key", text), fine)
	keeps(t, p, now, poll(ann), taken(1, "0,0,0,"))
	keeps(t, p, now, complete(ann, 1, out), fine)
	return p
}

// P14.1

func TestNew(t *testing.T) {
	r := rosterOf(t, labels, people)
	for part := range parts {
		p := New(r, part)
		if p == nil {
			t.Fatal(part)
		}
		if p.Runs() != 0 || p.Text() != "0,0," || p.Status(5) != "0," {
			t.Error(part, p.Runs(), p.Text(), p.Status(5))
		}
	}
	for _, part := range []int{-1, -2, parts, parts + 1, math.MinInt, math.MaxInt} {
		if New(r, part) != nil {
			t.Error(part)
		}
	}
	for part := -1; part <= parts; part++ {
		if New(nil, part) != nil || New(&roster.Roster{}, part) != nil {
			t.Error(part, "no roster")
		}
	}
	alone := rosterOf(t, labels[:1], nil)
	if New(alone, 0) == nil || New(alone, 1) != nil {
		t.Error("one alone")
	}
}

// Of which partition it is tells to where its gates may go.
func TestNewOfEachPartition(t *testing.T) {
	r := rosterOf(t, labels, []api.Person{{Part: low, Auth: all}, {Part: own, Auth: all}, {Part: aside, Auth: all}, {Part: high, Auth: all}})
	for part := range parts {
		for to, label := range []string{"0:0000", "3:0001", "3:0002", "5:0003"} {
			p := New(r, part)
			want := fine
			if part == to || part == low || to == high {
				want = fault(api.ErrLabel, 1)
			}
			keeps(t, p, 0, submit("k", "pipe p\ntask a\ngate g after a to "+label+" need 1"), want)
			if want != fine {
				continue
			}
			keeps(t, p, 0, poll(part), taken(1, "0,0,0,"))
			keeps(t, p, 0, complete(part, 1, "x"), fine)
			goes(t, p, 2, approve(part, 0, 1), api.Release{Tick: 2, From: part, Task: 1, Text: "x"})
			if p.Goal(0, 1) != to {
				t.Error(part, to, p.Goal(0, 1))
			}
		}
	}
}

// noKeys are no names.
func noKeys() []string {
	return []string{"", "abcdefghi", "A", "aB", "a1", "1", "a b", " a", "a ", "a,b", "a\n", "\na", "a\x00", "`", "{", "é", "\xff", strings.Repeat("a", 700)}
}

func TestSubmitOfNoKey(t *testing.T) {
	full := fresh(t)
	for i := range api.MaxRuns {
		keeps(t, full, 0, submit(key(i), single), number(i))
	}
	for _, p := range []*Part{fresh(t), full} {
		for _, k := range noKeys() {
			for _, text := range []string{single, "", "pip", "pipe p\ntask a after a"} {
				keeps(t, p, 3, submit(k, text), wrong(api.ErrArg))
			}
		}
	}
}

func TestSubmitOfKeys(t *testing.T) {
	p := fresh(t)
	list := []string{"a", "z", "abcdefgh", "aa", "ab", "pipe", "task", "zzzzzzzz"}
	for i, k := range list {
		keeps(t, p, 0, submit(k, single), number(i))
		if p.Runs() != i+1 {
			t.Error(k, p.Runs())
		}
	}
	for i, k := range list {
		keeps(t, p, 0, submit(k, single), fault(api.ErrOnce, i))
	}
	keeps(t, p, 0, submit("b", single), number(len(list)))
}

func TestSubmitOnce(t *testing.T) {
	p := fresh(t)
	once := func(now, runs int) {
		t.Helper()
		for i := range runs {
			for _, text := range []string{single, gated, "", "pip", strings.Repeat(" ", 601), "pipe p\ntask a after a"} {
				keeps(t, p, now, submit(key(i), text), fault(api.ErrOnce, i))
			}
		}
	}
	for i := range api.MaxRuns {
		keeps(t, p, 0, submit(key(i), single), number(i))
		once(0, i+1)
	}
	// However a run stands: one succeeds, one fails, one is cancelled.
	keeps(t, p, 1, poll(ann), taken(1, "0,0,0,"))
	keeps(t, p, 1, poll(ann), taken(2, "1,0,0,"))
	keeps(t, p, 1, complete(ann, 1, ""), fine)
	keeps(t, p, 1, fail(ann, 2), fine)
	keeps(t, p, 1, cancel(2), fine)
	if !strings.HasPrefix(p.Status(1), "16,0,1,s1,1,3,1,1,s2,1,4,2,1,s3,1,1,3,1,s0,1,1,") {
		t.Error(p.Status(1))
	}
	once(1, api.MaxRuns)
	once(900, api.MaxRuns)
}

func TestSubmitFull(t *testing.T) {
	p := fresh(t)
	for i := range api.MaxRuns {
		keeps(t, p, i, submit(key(i), single), number(i))
	}
	full := func(now int) {
		t.Helper()
		for _, text := range []string{single, gated, "", "pip", strings.Repeat("a", 601), "pipe p\ntask a after a"} {
			keeps(t, p, now, submit("new", text), wrong(api.ErrFull))
		}
		if p.Runs() != 16 {
			t.Error(p.Runs())
		}
	}
	full(20)
	// Runs that have ended are there still.
	for i := range api.MaxRuns {
		keeps(t, p, 20, cancel(i), fine)
	}
	full(20)
}

// Each kind of a manifest's errors, and where it stands.
func TestSubmitOfWrongTexts(t *testing.T) {
	p := fresh(t)
	for _, c := range []struct {
		text string
		e    api.Errno
		at   int
	}{
		{strings.Repeat(" ", 601), api.ErrNumber, 600},
		{single + strings.Repeat("\n", 700), api.ErrNumber, 600},
		{"pipe p\ttask a", api.ErrForm, 6},
		{"pipe p\ntask \x00", api.ErrForm, 12},
		{"", api.ErrNone, 0},
		{" \n ", api.ErrNone, 3},
		{"\npip p", api.ErrWord, 1},
		{"  pipe", api.ErrForm, 2},
		{"pipe p q", api.ErrForm, 0},
		{"pipe P", api.ErrName, 5},
		{"pipe p", api.ErrNone, 6},
		{"pipe p\ntusk a", api.ErrWord, 7},
		{"pipe p\ntask", api.ErrForm, 7},
		{"pipe p\ntask a1", api.ErrName, 12},
		{"pipe p\ntask a\ntask a", api.ErrOnce, 19},
		{"pipe p\ntask a need 1", api.ErrWord, 14},
		{"pipe p\ntask a time 1 time 2", api.ErrOnce, 21},
		{"pipe p\ntask a time", api.ErrForm, 14},
		{"pipe p\ntask a time 0", api.ErrNumber, 19},
		{"pipe p\ntask a retry 6", api.ErrNumber, 20},
		{"pipe p\ntask a after B", api.ErrName, 20},
		{"pipe p\ntask a\ntask b after a,a", api.ErrOnce, 29},
		{"pipe p\ntask a\ngate g after a to 8:0000 need 1", api.ErrForm, 32},
		{"pipe p\ntask a\ngate g after a to 0:0000 need 5", api.ErrNumber, 44},
		{"pipe p\ntask a\ngate g after a need 1", api.ErrForm, 14},
		{"pipe p\ntask a after b", api.ErrNone, 20},
		{"pipe p\ntask a\ntask b\ntask c\ntask d\ntask e\ntask f\ntask g\ntask h\ntask i", api.ErrNumber, 63},
		// Ahead of all that isn't fit.
		{"pipe p\ntask a after a\ntask b after c", api.ErrNone, 35},
		{"pipe p\ntask a\ngate g after a to 7:0000 need 4 time 0", api.ErrNumber, 51},
	} {
		if _, err := manifest.Parse(c.text); !errors.Is(err, c.e) || lexer.At(err) != c.at {
			t.Fatalf("%q: %v", c.text, err)
		}
		keeps(t, p, 0, submit("k", c.text), fault(c.e, c.at))
	}
	if p.Text() != "0,0," {
		t.Error(p.Text())
	}
	keeps(t, p, 0, submit("k", single), number(0))
}

// Each kind of what isn't fit, and the place of the task.
func TestSubmitOfUnfit(t *testing.T) {
	p := fresh(t)
	for _, c := range []struct {
		text string
		e    api.Errno
		at   int
	}{
		{"task a after a", api.ErrCycle, 0},
		{"task a\ntask b after c\ntask c after b", api.ErrCycle, 1},
		{"task a\ntask b after a\ntask c after c,b", api.ErrCycle, 2},
		{"task a\ngate g to 0:0000 need 1", api.ErrForm, 1},
		{"task a\ntask b\ngate g to 0:0000 need 1 after a,b", api.ErrForm, 2},
		{"task a\ngate g after a to 0:0001 need 1", api.ErrLabel, 1},
		{"task a\ngate g after a to 3:0003 need 1", api.ErrLabel, 1},
		{"task a\ngate g after a to 3:0001 need 1", api.ErrLabel, 1}, // its own
		{"task a\ntask b\ngate g after b to 5:0003 need 1", api.ErrLabel, 2},
		{"gate g after a to 0:0000 need 4\ntask a\ngate h after a to 5:0003 need 4", api.ErrLabel, 2},
		{"task a\ngate g after a to 0:0000 need 5", api.ErrNumber, 44}, // that is the text's, its place a byte's
		// Ahead: what is told first.
		{"task a after a\ngate g to 7:0000 need 4", api.ErrCycle, 0},
		{"task a\ngate g to 7:0000 need 4", api.ErrForm, 1},
		{"task a\ngate g after a to 7:0000 need 4\ngate h to 7:0000 need 4", api.ErrLabel, 1},
	} {
		keeps(t, p, 0, submit("k", "pipe p\n"+c.text), fault(c.e, c.at))
		if pipe, err := manifest.Parse("pipe p\n" + c.text); err == nil {
			if err := check.Check(pipe, rosterOf(t, labels, people), own); !errors.Is(err, c.e) || lexer.At(err) != c.at {
				t.Errorf("%q: %v", c.text, err)
			}
		}
	}
	keeps(t, p, 0, submit("k", "pipe p\ntask a\ngate g after a to 0:0000 need 4"), number(0))
	keeps(t, p, 0, submit("l", "pipe p\ntask a\ngate g after a to 3:0002 need 4"), number(1))
}

func TestSubmitOfTooFewVoters(t *testing.T) {
	for voters := range 5 {
		p := New(rosterOf(t, labels, slices.Concat(people[:voters], people[eve:])), own)
		for need := 1; need <= 4; need++ {
			want := number(p.Runs())
			if need > voters {
				want = fault(api.ErrState, 2)
			}
			keeps(t, p, 0, submit(key(need), "pipe p\ntask a\ntask b\ngate g after b to 0:0000 need "+strconv.Itoa(need)), want)
		}
	}
}

// What may be taken then, and since when.
func TestSubmitBegins(t *testing.T) {
	p := fresh(t)
	keeps(t, p, 7, submit("k", "pipe p\ntask d after a,b\ntask a\ntask b\ngate g after a to 0:0000 need 1"), number(0))
	if got, want := p.Text(), "0,1,1,k1,p4,1,d2,1,2,0,5,0,0,0,1,a0,0,5,0,0,0,1,b0,0,5,0,0,0,1,g1,1,0,5,1,0,0,"+"0,0,0,0,0,0,0,0,0,"+"1,7,0,0,0,0,0,0,0,"+"1,7,0,0,0,0,0,0,0,"+"0,0,0,0,0,0,0,0,0,"+"0,"; got != want {
		t.Errorf("%q, not %q", got, want)
	}
	stands(t, p, 7, "1,0,1,p0,4,0,1,1,0,")
	keeps(t, p, 6, poll(ann), wrong(api.ErrNone))
	keeps(t, p, 7, poll(ann), taken(1, "0,1,0,"))
	keeps(t, p, 7, poll(ann), taken(2, "0,2,0,"))
	keeps(t, p, 7, poll(ann), wrong(api.ErrNone))
}

func TestPollOfNone(t *testing.T) {
	p := fresh(t)
	none := func(now int) {
		t.Helper()
		keeps(t, p, now, poll(ann), wrong(api.ErrNone))
		keeps(t, p, now, poll(nobody), wrong(api.ErrNone))
	}
	none(0)
	keeps(t, p, 5, submit("held", again), number(0))
	none(4) // not yet
	keeps(t, p, 5, poll(ann), taken(1, "0,0,0,"))
	none(5)
	none(7)
	none(8) // it was missed at 8, and is ready from 9 on
	keeps(t, p, 8, submit("over", single), number(1))
	keeps(t, p, 8, cancel(1), fine)
	none(8)
	keeps(t, p, 8, submit("gate", easy), number(2))
	keeps(t, p, 8, poll(bob), taken(2, "2,0,0,"))
	none(8)
	keeps(t, p, 8, complete(bob, 2, "x"), fine) // a gate isn't taken
	none(8)
	keeps(t, p, 8, submit("done", single), number(3))
	keeps(t, p, 8, poll(bob), taken(3, "3,0,0,"))
	keeps(t, p, 8, complete(bob, 3, "x"), fine)
	none(8)
	keeps(t, p, 8, submit("lost", "pipe p\ntask a\ntask b"), number(4))
	keeps(t, p, 8, poll(bob), taken(4, "4,0,0,"))
	keeps(t, p, 8, fail(bob, 4), fine) // b is ready, but it has failed
	none(8)
	keeps(t, p, 9, poll(cid), taken(5, "0,0,0,"))
}

// Of all Bests the least Since, then the least number.
func TestPollTakesTheBest(t *testing.T) {
	p := fresh(t)
	keeps(t, p, 3, submit("a", again), number(0))
	keeps(t, p, 3, submit("b", again), number(1))
	keeps(t, p, 2, submit("c", single), number(2)) // told later, but it has waited longer
	keeps(t, p, 3, submit("d", again), number(3))
	for i, want := range []string{"2,0,0,", "0,0,0,", "1,0,0,", "3,0,0,"} {
		keeps(t, p, 3, poll(ann), taken(i+1, want))
	}
	keeps(t, p, 4, fail(ann, 3), fine) // 1, since 5
	keeps(t, p, 5, fail(ann, 2), fine) // 0, since 6
	keeps(t, p, 5, fail(ann, 4), fine) // 3, since 6
	keeps(t, p, 6, submit("e", single), number(4))
	first := p.Copy()
	keeps(t, first, 5, poll(ann), taken(5, "1,0,0,"))
	keeps(t, first, 5, poll(ann), wrong(api.ErrNone))
	for i, want := range []string{"1,0,0,", "0,0,0,", "3,0,0,", "4,0,0,"} {
		keeps(t, p, 6, poll(bob), taken(i+5, want))
	}
	keeps(t, p, 6, poll(bob), wrong(api.ErrNone))
}

// Of one run the task that its Best is.
func TestPollTakesTheBestTask(t *testing.T) {
	p := fresh(t)
	keeps(t, p, 0, submit("a", "pipe p\ntask a retry 1\ntask b\ntask c retry 5"), number(0))
	keeps(t, p, 1, submit("b", "pipe p\ntask a\ntask b"), number(1))
	keeps(t, p, 1, poll(ann), taken(1, "0,0,0,"))
	keeps(t, p, 1, fail(ann, 1), fine) // a, since 2
	for i, want := range []string{"0,1,0,", "0,2,0,", "1,0,0,", "1,1,0,", "0,0,0,"} {
		keeps(t, p, 2, poll(ann), taken(i+2, want))
	}
}

// All Sinces that three runs may have.
func TestPollOfThreeRuns(t *testing.T) {
	for i := range 4 * 4 * 4 {
		p, sinces := fresh(t), []int{i / 16, i / 4 % 4, i % 4}
		for id, since := range sinces {
			keeps(t, p, since, submit(key(id), single), number(id))
		}
		lease := 0
		for since := range 4 {
			for id := range sinces {
				if sinces[id] == since {
					lease++
					keeps(t, p, 3, poll(ann), taken(lease, strconv.Itoa(id)+",0,0,"))
				}
			}
		}
		keeps(t, p, 3, poll(ann), wrong(api.ErrNone))
	}
}

// The number goes on over all runs, and isn't taken back.
func TestLeasesGoOn(t *testing.T) {
	p := fresh(t)
	keeps(t, p, 0, poll(ann), wrong(api.ErrNone))
	keeps(t, p, 0, submit("a", again), number(0))
	keeps(t, p, 0, submit("b", again), number(1))
	keeps(t, p, 0, poll(ann), taken(1, "0,0,0,"))
	keeps(t, p, 0, poll(bob), taken(2, "1,0,0,"))
	keeps(t, p, 0, poll(bob), wrong(api.ErrNone))
	keeps(t, p, 0, poll(bob), wrong(api.ErrNone))
	keeps(t, p, 0, complete(bob, 2, ""), fine)
	keeps(t, p, 0, fail(ann, 1), fine)
	keeps(t, p, 1, poll(ann), taken(3, "0,0,0,"))
	keeps(t, p, 1, cancel(0), fine)
	keeps(t, p, 1, submit("c", single), number(2))
	keeps(t, p, 1, poll(eve), taken(4, "2,0,0,"))
	if !strings.HasPrefix(p.Text(), "4,3,") {
		t.Error(p.Text())
	}
}

func TestPollGivesInput(t *testing.T) {
	for _, out := range []string{"", "x", "\x00,\xff", strings.Repeat("o", 32)} {
		p := fresh(t)
		keeps(t, p, 0, submit("other", single), number(0))
		keeps(t, p, 0, cancel(0), fine)
		keeps(t, p, 0, submit("k", "pipe p\ntask d after c,a\ntask a\ntask b after a\ntask c\ntask e after a,b,c,d"), number(1))
		texts := func(list ...string) string {
			var input, w codec.Writer
			input.Text(list...)
			w.Text(input.String())
			return w.String()
		}
		keeps(t, p, 0, poll(ann), taken(1, "1,1,0,"))
		keeps(t, p, 0, poll(ann), taken(2, "1,3,0,"))
		keeps(t, p, 1, complete(ann, 1, out), fine)
		keeps(t, p, 1, poll(bob), taken(3, "1,2,"+texts(out)))
		keeps(t, p, 1, complete(ann, 2, "from c"), fine)
		keeps(t, p, 1, poll(cid), taken(4, "1,0,"+texts("from c", out)))
		keeps(t, p, 1, complete(cid, 4, "d"), fine)
		keeps(t, p, 1, complete(bob, 3, ""), fine)
		keeps(t, p, 1, poll(cid), taken(5, "1,4,"+texts(out, "", "from c", "d")))
	}
}

// reports are the commands of one who has a lease.
func reports(who, n int) map[string]api.Command {
	return map[string]api.Command{
		"complete": complete(who, n, "out"), "nothing": complete(who, n, ""), "too long": complete(who, n, strings.Repeat("o", 33)),
		"fail": fail(who, n), "beat": beat(who, n),
	}
}

// noLease holds that one has none.
func noLease(t *testing.T, p *Part, now, who, n int) {
	t.Helper()
	for _, c := range reports(who, n) {
		keeps(t, p, now, c, wrong(api.ErrLease))
	}
}

// hasLease holds that one has one; what the commands make of it they make of copies.
func hasLease(t *testing.T, p *Part, now, who, n int) {
	t.Helper()
	for name, c := range reports(who, n) {
		one := p.Copy()
		if name == "too long" {
			keeps(t, one, now, c, wrong(api.ErrArg))
			continue
		}
		keeps(t, one, now, c, fine)
		if one.Text() == p.Text() && name != "beat" {
			t.Errorf("%s: nothing", name)
		}
	}
}

func TestWhoHasALease(t *testing.T) {
	p := fresh(t)
	keeps(t, p, 0, submit("a", again), number(0))
	keeps(t, p, 0, submit("b", "pipe p\ntask a time 3\ntask b time 9"), number(1))
	for _, who := range []int{ann, bob, eve} {
		noLease(t, p, 0, who, 0)
		noLease(t, p, 0, who, 1)
	}
	keeps(t, p, 0, poll(ann), taken(1, "0,0,0,"))
	keeps(t, p, 1, poll(bob), taken(2, "1,0,0,"))
	keeps(t, p, 1, poll(ann), taken(3, "1,1,0,"))
	for _, has := range [][2]int{{ann, 1}, {bob, 2}, {ann, 3}} {
		hasLease(t, p, 2, has[0], has[1])
	}
	for _, not := range [][2]int{{bob, 1}, {ann, 2}, {bob, 3}, {cid, 1}, {-1, 1}, {nobody, 2}, {ann, 0}, {ann, -1}, {bob, 4}, {ann, 4}, {ann, math.MaxInt}, {ann, math.MinInt}, {math.MaxInt, 1}} {
		noLease(t, p, 2, not[0], not[1])
	}
	hasLease(t, p, 2, ann, 1) // until 3
	noLease(t, p, 3, ann, 1)
	hasLease(t, p, 3, bob, 2) // until 4
	noLease(t, p, 4, bob, 2)
	hasLease(t, p, 3, ann, 3)
	noLease(t, p, 4, ann, 3) // the run has failed with the other task
}

// Any number may take a task here.
func TestWhoMayBeAnyNumber(t *testing.T) {
	for _, who := range []int{-1, nobody, gus, hal, ivy, math.MinInt, math.MaxInt, 1 << 40} {
		p := fresh(t)
		keeps(t, p, 0, submit("a", single), number(0))
		keeps(t, p, 0, poll(who), taken(1, "0,0,0,"))
		hasLease(t, p, 1, who, 1)
		noLease(t, p, 1, ann, 1)
		keeps(t, p, 1, complete(who, 1, "x"), fine)
		stands(t, p, 1, "1,0,1,s1,1,3,")
	}
}

func TestLeaseOfWhatIsOver(t *testing.T) {
	ways := map[string]func(p *Part){
		"completed": func(p *Part) { keeps(t, p, 1, complete(ann, 1, "x"), fine) },
		"failed":    func(p *Part) { keeps(t, p, 1, fail(ann, 1), fine) },
		"cancelled": func(p *Part) { keeps(t, p, 1, cancel(0), fine) },
		"another failed": func(p *Part) {
			keeps(t, p, 1, poll(bob), taken(2, "0,1,0,"))
			keeps(t, p, 1, fail(bob, 2), fine)
		},
	}
	for name, way := range ways {
		t.Run(name, func(t *testing.T) {
			p := fresh(t)
			keeps(t, p, 0, submit("a", "pipe p\ntask a\ntask b\ntask c"), number(0))
			keeps(t, p, 0, poll(ann), taken(1, "0,0,0,"))
			hasLease(t, p, 1, ann, 1)
			way(p)
			noLease(t, p, 1, ann, 1)
		})
	}
}

// A lease's time begins with the poll, however long the task waited.
func TestLeaseTime(t *testing.T) {
	for _, time := range []int{1, 2, 5, 100} {
		p := fresh(t)
		keeps(t, p, 3, submit("a", "pipe p\ntask a time "+strconv.Itoa(time)), number(0))
		keeps(t, p, 10, poll(ann), taken(1, "0,0,0,"))
		for now := 10; now < 10+time; now++ {
			hasLease(t, p, now, ann, 1)
		}
		for _, now := range []int{10 + time, 11 + time, 1000} {
			noLease(t, p, now, ann, 1)
			stands(t, p, now, "1,0,1,p2,1,4,")
		}
		stands(t, p, 9+time, "1,0,1,p0,1,2,")
	}
}

func TestComplete(t *testing.T) {
	for size := range 40 {
		p, out := fresh(t), strings.Repeat("\xf0", size)
		keeps(t, p, 0, submit("a", "pipe p\ntask a\ntask b after a"), number(0))
		keeps(t, p, 0, poll(ann), taken(1, "0,0,0,"))
		if size > 32 {
			keeps(t, p, 2, complete(bob, 1, out), wrong(api.ErrLease))
			keeps(t, p, 2, complete(ann, 1, out), wrong(api.ErrArg))
			hasLease(t, p, 2, ann, 1)
			continue
		}
		keeps(t, p, 2, complete(ann, 1, out), fine)
		stands(t, p, 2, "1,0,1,p0,2,3,1,")
		keeps(t, p, 1, poll(ann), wrong(api.ErrNone)) // b is ready from 2 on
		var input, w codec.Writer
		input.Text(out)
		w.Text(input.String())
		keeps(t, p, 2, poll(ann), taken(2, "0,1,"+w.String()))
		keeps(t, p, 3, complete(ann, 2, ""), fine)
		stands(t, p, 3, "1,0,1,p1,2,3,3,")
	}
}

func TestFail(t *testing.T) {
	for retry := range 6 {
		p := fresh(t)
		keeps(t, p, 0, submit("a", "pipe p\ntask a time 9 retry "+strconv.Itoa(retry)+"\ntask b after a"), number(0))
		now := 0
		for missed := 1; missed <= retry+1; missed++ {
			keeps(t, p, now, poll(ann), taken(missed, "0,0,0,"))
			keeps(t, p, now+1, fail(ann, missed), fine)
			noLease(t, p, now+1, ann, missed)
			if missed > retry {
				break
			}
			stands(t, p, now+1, "1,0,1,p0,2,1,0,")
			now += 1 + missed // a little later, each time
			keeps(t, p, now-1, poll(ann), wrong(api.ErrNone))
		}
		stands(t, p, now+1, "1,0,1,p2,2,4,0,")
		keeps(t, p, now+100, poll(ann), wrong(api.ErrNone))
		keeps(t, p, now+100, cancel(0), wrong(api.ErrState))
	}
}

func TestBeat(t *testing.T) {
	p := fresh(t)
	keeps(t, p, 0, submit("a", single), number(0)) // 4 ticks
	keeps(t, p, 0, poll(ann), taken(1, "0,0,0,"))
	for now := 3; now < 30; now += 3 {
		keeps(t, p, now, beat(ann, 1), fine)
		hasLease(t, p, now+3, ann, 1)
		noLease(t, p, now+4, ann, 1)
	}
	keeps(t, p, 27, beat(ann, 1), fine) // again at once: no more
	hasLease(t, p, 30, ann, 1)
	noLease(t, p, 31, ann, 1)
	keeps(t, p, 31, beat(ann, 1), wrong(api.ErrLease))
	keeps(t, p, 30, complete(ann, 1, "x"), fine)
	stands(t, p, 30, "1,0,1,s1,1,3,")
}

// ballots are a vote for a gate, and one against it.
func ballots(who, n, task int) []api.Command {
	return []api.Command{approve(who, n, task), deny(who, n, task)}
}

// noVote holds that neither vote is taken.
func noVote(t *testing.T, p *Part, now, who, n, task int, e api.Errno) {
	t.Helper()
	for _, c := range ballots(who, n, task) {
		keeps(t, p, now, c, wrong(e))
	}
}

func TestVoteOfNoRun(t *testing.T) {
	p := fresh(t)
	for _, n := range []int{-1, 0, 1, 16, math.MinInt, math.MaxInt} {
		noVote(t, p, 0, ann, n, 0, api.ErrNone)
	}
	p = opened(t, gated, 0, "x")
	keeps(t, p, 0, submit("b", gated), number(1))
	for _, n := range []int{-1, 2, 3, 16, math.MinInt, math.MaxInt} {
		for _, task := range []int{-1, 0, gateAt, 3, 8} { // whatever the place
			for _, who := range []int{ann, eve, -1} { // and whoever it is
				noVote(t, p, 0, who, n, task, api.ErrNone)
			}
		}
	}
}

func TestVoteOfNoGate(t *testing.T) {
	p := opened(t, gated, 0, "x")
	over := p.Copy()
	keeps(t, over, 0, cancel(0), fine)
	for _, one := range []*Part{p, over} {
		for _, task := range []int{-1, 0, 2, 3, 4, 8, math.MinInt, math.MaxInt} {
			for _, who := range []int{ann, eve, -1, nobody} {
				noVote(t, one, 0, who, 0, task, api.ErrRange)
			}
		}
	}
}

func TestVoteInEachState(t *testing.T) {
	closed := func(p *Part, now int) {
		t.Helper()
		for _, who := range []int{ann, bob, eve, -1, nobody} { // ahead of ErrLabel, and of ErrOnce
			noVote(t, p, now, who, 0, gateAt, api.ErrState)
		}
	}
	p := fresh(t)
	keeps(t, p, 0, submit("key", gated), number(0))
	closed(p, 0) // it waits
	keeps(t, p, 1, poll(ann), taken(1, "0,0,0,"))
	closed(p, 1)
	keeps(t, p, 2, complete(ann, 1, "x"), fine)
	keeps(t, p, 2, approve(ann, 0, gateAt), fine) // it is open
	over := p.Copy()
	keeps(t, over, 2, cancel(0), fine)
	closed(over, 2)
	denied := p.Copy()
	keeps(t, denied, 2, deny(bob, 0, gateAt), fine)
	closed(denied, 2)
	// Its time is up at 8.
	keeps(t, p.Copy(), 7, deny(bob, 0, gateAt), fine)
	closed(p, 8)
	closed(p, 9)
	goes(t, p, 7, approve(bob, 0, gateAt), api.Release{Tick: 7, From: own, Run: 0, Task: gateAt, Text: "x"})
	closed(p, 7) // it is done
	closed(p, 8)
}

func TestWhoMayVote(t *testing.T) {
	for _, c := range []struct {
		text string
		may  []int
	}{
		{easy, []int{ann, bob, cid, dan, gus, ivy}}, // by layer 2's May, whose partition doesn't matter here
		{sides, []int{ann, bob, cid, dan, flo, gus, hal, ivy}},
	} {
		p := opened(t, c.text, 0, "x")
		for _, who := range []int{-1, ann, bob, cid, dan, eve, flo, gus, hal, ivy, nobody, 11, 12, math.MinInt, math.MaxInt} {
			if !slices.Contains(c.may, who) {
				noVote(t, p, 1, who, 0, gateAt, api.ErrLabel)
				continue
			}
			goes(t, p.Copy(), 1, approve(who, 0, gateAt), api.Release{Tick: 1, From: own, Task: gateAt, Text: "x"})
			keeps(t, p.Copy(), 1, deny(who, 0, gateAt), fine)
		}
	}
}

func TestVotesThatAreNeeded(t *testing.T) {
	for need := 1; need <= 4; need++ {
		p := opened(t, "pipe p\ntask a\ngate g after a to 0:0000 need "+strconv.Itoa(need)+"\ntask b after g", 3, "x")
		for i, who := range []int{cid, ann, dan, bob}[:need] {
			if i+1 < need {
				keeps(t, p, 4, approve(who, 0, gateAt), fine)
				for _, again := range []int{cid, ann, dan, bob}[:i+1] {
					keeps(t, p, 4, approve(again, 0, gateAt), wrong(api.ErrOnce))
				}
				noVote(t, p, 4, eve, 0, gateAt, api.ErrLabel)
				stands(t, p, 4, "1,0,1,p0,3,3,1,0,")
				continue
			}
			goes(t, p, 6, approve(who, 0, gateAt), api.Release{Tick: 6, From: own, Run: 0, Task: gateAt, Text: "x"})
		}
		// What stands behind it may begin, from then on.
		stands(t, p, 6, "1,0,1,p0,3,3,3,1,")
		keeps(t, p, 5, poll(ann), wrong(api.ErrNone))
		keeps(t, p, 6, poll(ann), taken(2, "0,2,3,1,x"))
	}
}

// What a release has: of a later run and place, with any output.
func TestRelease(t *testing.T) {
	for _, out := range []string{"", "x", "\x00\xff,", strings.Repeat("o", 32)} {
		p := fresh(t)
		for i := range 3 {
			keeps(t, p, 0, submit(key(i), single), number(i))
			keeps(t, p, 0, cancel(i), fine)
		}
		keeps(t, p, 5, submit("k", "pipe p\ngate h after g to 3:0002 need 1\ntask b after h\ntask a\ngate g after a to 0:0000 need 2"), number(3))
		keeps(t, p, 5, poll(ann), taken(1, "3,2,0,"))
		keeps(t, p, 6, complete(ann, 1, out), fine)
		keeps(t, p, 7, approve(ann, 3, 3), fine)
		noVote(t, p, 7, ann, 3, 0, api.ErrState)
		goes(t, p, 8, approve(bob, 3, 3), api.Release{Tick: 8, From: own, Run: 3, Task: 3, Text: out})
		// The gate behind it is open then, for its own time, and lets the same go.
		keeps(t, p, 13, approve(flo, 3, 0), wrong(api.ErrState))
		goes(t, p, 12, approve(flo, 3, 0), api.Release{Tick: 12, From: own, Run: 3, Task: 0, Text: out})
	}
}

func TestDeny(t *testing.T) {
	for ahead := range 2 {
		for _, who := range []int{ann, bob} { // he was for it, or not
			p := opened(t, gated, 0, "x")
			for one := range ahead {
				keeps(t, p, 1, approve(one, 0, gateAt), fine)
			}
			keeps(t, p, 2, submit("other", single), number(1))
			keeps(t, p, 2, deny(who, 0, gateAt), fine)
			stands(t, p, 2, "2,0,1,g2,3,3,4,0,1,1,s0,1,1,")
			keeps(t, p, 2, cancel(0), wrong(api.ErrState))
			noVote(t, p, 2, cid, 0, gateAt, api.ErrState)
			if p.Let(2, 0, gateAt) || p.Open(0, gateAt) {
				t.Error("it goes")
			}
		}
	}
}

// Votes are those of one gate of one run.
func TestVotesOfSeveralGates(t *testing.T) {
	const two = "pipe p\ntask a\ngate g after a to 0:0000 need 2\ngate h after a to 3:0002 need 2"
	p := opened(t, two, 0, "x")
	keeps(t, p, 0, submit("other", two), number(1))
	keeps(t, p, 0, poll(bob), taken(2, "1,0,0,"))
	keeps(t, p, 0, complete(bob, 2, "y"), fine)
	keeps(t, p, 1, approve(ann, 0, 1), fine)
	keeps(t, p, 1, approve(ann, 0, 2), fine)
	keeps(t, p, 1, approve(ann, 1, 1), fine)
	keeps(t, p, 1, approve(ann, 1, 2), fine)
	goes(t, p, 2, approve(bob, 1, 2), api.Release{Tick: 2, From: own, Run: 1, Task: 2, Text: "y"})
	goes(t, p, 3, approve(cid, 0, 1), api.Release{Tick: 3, From: own, Run: 0, Task: 1, Text: "x"})
	keeps(t, p, 3, deny(dan, 1, 1), fine)
	stands(t, p, 3, "2,0,1,p0,3,3,3,1,1,1,p2,3,3,4,3,")
	goes(t, p, 4, approve(flo, 0, 2), api.Release{Tick: 4, From: own, Run: 0, Task: 2, Text: "x"})
	stands(t, p, 4, "2,0,1,p1,3,3,3,3,1,1,p2,3,3,4,3,")
}

func TestCancel(t *testing.T) {
	p := fresh(t)
	for _, n := range []int{-1, 0, 1, math.MinInt, math.MaxInt} {
		keeps(t, p, 0, cancel(n), wrong(api.ErrNone))
	}
	for i := range 3 {
		keeps(t, p, 0, submit(key(i), single), number(i))
	}
	for _, n := range []int{-1, 3, 16, math.MinInt, math.MaxInt} {
		keeps(t, p, 0, cancel(n), wrong(api.ErrNone))
	}
	keeps(t, p, 0, cancel(1), fine)
	stands(t, p, 0, "3,0,1,s0,1,1,1,1,s3,1,1,2,1,s0,1,1,")
	keeps(t, p, 0, cancel(1), wrong(api.ErrState))
	keeps(t, p, 0, poll(ann), taken(1, "0,0,0,"))
	keeps(t, p, 0, poll(ann), taken(2, "2,0,0,"))
	keeps(t, p, 0, complete(ann, 1, ""), fine)
	keeps(t, p, 0, cancel(0), wrong(api.ErrState)) // it has succeeded
	// It fails just then.
	keeps(t, p, 4, cancel(2), wrong(api.ErrState))
	keeps(t, p, 3, cancel(2), fine)
	stands(t, p, 900, "3,0,1,s1,1,3,1,1,s3,1,1,2,1,s3,1,2,")
}

// otherKinds are those of no command of a partition.
func otherKinds() []int {
	return []int{0, -1, api.CQuery, api.CTick, api.CCrash, api.CCrash + 1, 100, math.MinInt, math.MaxInt}
}

func TestOtherKinds(t *testing.T) {
	p := opened(t, gated, 0, "x")
	keeps(t, p, 0, submit("held", single), number(1))
	keeps(t, p, 0, poll(ann), taken(2, "1,0,0,"))
	for _, kind := range otherKinds() {
		for _, c := range []api.Command{{}, submit("k", single), submit("key", ""), poll(ann), complete(ann, 2, "x"), approve(ann, 0, gateAt), cancel(0), cancel(9)} {
			c.Kind = kind
			for _, now := range []int{0, 3, 4, 6, 1000} {
				keeps(t, p, now, c, wrong(api.ErrArg))
			}
		}
	}
}

// Fields of which a kind doesn't speak don't matter.
func TestFieldsThatDoNotMatter(t *testing.T) {
	odd := api.Cut{At: 3, Bits: 7}
	p := fresh(t)
	keeps(t, p, 0, api.Command{Kind: api.CSubmit, Who: -5, N: 99, Task: -1, Key: "k", Text: easy, Cut: odd}, number(0))
	keeps(t, p, 0, api.Command{Kind: api.CPoll, Who: 2, N: 99, Task: -1, Key: "K", Text: "?", Cut: odd}, taken(1, "0,0,0,"))
	keeps(t, p, 0, api.Command{Kind: api.CBeat, Who: 2, N: 1, Task: 99, Key: "K", Text: strings.Repeat("o", 99), Cut: odd}, fine)
	keeps(t, p, 0, api.Command{Kind: api.CComplete, Who: 2, N: 1, Task: 99, Key: "K", Text: "x", Cut: odd}, fine)
	goes(t, p, 0, api.Command{Kind: api.CApprove, Who: 2, N: 0, Task: 1, Key: "K", Text: strings.Repeat("o", 99), Cut: odd}, api.Release{From: own, Task: 1, Text: "x"})
	keeps(t, p, 0, poll(ann), taken(2, "0,2,3,1,x"))
	again := p.Copy()
	keeps(t, again, 0, api.Command{Kind: api.CFail, Who: 0, N: 2, Task: 99, Key: "K", Text: strings.Repeat("o", 99), Cut: odd}, fine)
	keeps(t, p, 0, api.Command{Kind: api.CCancel, Who: -9, N: 0, Task: 99, Key: "K", Text: "?", Cut: odd}, fine)
}

// full is own with 16 runs, of which the first two have a gate that is open till 10, whose task x is held until 8, and whose task r is held until 5, and then tried again; of the others each waits for who takes its task.
func full(t *testing.T) *Part {
	t.Helper()
	const text = "pipe p\ntask a\ngate g after a to 0:0000 need 2 time 10\ntask x time 8\ntask r time 5 retry 1\ngate h after x to 0:0000 need 1"
	p := fresh(t)
	for i := range api.MaxRuns {
		if i > 1 {
			keeps(t, p, 0, submit(key(i), single), number(i))
			continue
		}
		keeps(t, p, 0, submit(key(i), text), number(i))
		for task, place := range []string{"0", "2", "3"} {
			keeps(t, p, 0, poll(ann), taken(3*i+task+1, strconv.Itoa(i)+","+place+",0,"))
		}
		keeps(t, p, 0, complete(ann, 3*i+1, "x"), fine)
		keeps(t, p, 0, approve(ann, i, 1), fine)
	}
	return p
}

// With an error nothing is changed, settling neither: what a command at an earlier time finds is as it was.
func TestErrorsChangeNothing(t *testing.T) {
	commands := []api.Command{
		submit("K", single), submit(key(0), single), submit(key(1), "pip"), submit("new", single), submit("new", ""),
		complete(ann, 2, "x"), complete(bob, 3, "x"), complete(ann, 3, strings.Repeat("o", 33)), fail(ann, 99), fail(ann, 2), beat(bob, 2), beat(ann, 3),
		approve(ann, 16, 1), approve(ann, -1, 1), approve(ann, 0, 0), deny(ann, 1, 5), approve(ann, 0, 4), deny(ann, 0, 4), approve(eve, 0, 1), deny(nobody, 1, 1), approve(ann, 0, 1), approve(ann, 1, 1),
		cancel(-1), cancel(16), cancel(0), cancel(1), {}, {Kind: 12}, {Kind: -1},
	}
	// At 8 both runs have failed, and of all leases of theirs none is left.
	for _, now := range []int{8, 10, 1000} {
		for _, c := range commands {
			p := full(t)
			was := p.Text()
			answer, release := p.Do(now, c)
			if answer.Err == api.OK || release != nil {
				t.Fatal(now, c, answer)
			}
			if p.Text() != was {
				t.Fatalf("%d: %v: %q, not %q", now, c, p.Text(), was)
			}
			hasLease(t, p, 4, ann, 2)
			hasLease(t, p, 4, ann, 3)
			hasLease(t, p, 4, ann, 6)
			goes(t, p, 7, approve(bob, 1, 1), api.Release{Tick: 7, From: own, Run: 1, Task: 1, Text: "x"})
			keeps(t, p, 7, deny(bob, 0, 1), fine)
		}
	}
	// A poll that finds none, and a text that is wrong, or isn't fit.
	p := fresh(t)
	keeps(t, p, 0, submit("a", again), number(0))
	keeps(t, p, 0, poll(ann), taken(1, "0,0,0,"))
	for _, c := range []api.Command{submit("b", "pip"), submit("b", "pipe p\ntask a after a"), submit("b", "pipe p\ntask a\ngate g after a to 7:0000 need 1"), poll(ann)} {
		if answer, _ := p.Do(3, c); answer.Err == api.OK {
			t.Fatal(c)
		}
		hasLease(t, p, 2, ann, 1)
	}
	keeps(t, p, 2, complete(ann, 1, "x"), fine)
}

// A command that is done settles all runs at its time, also those of which it doesn't speak.
func TestAllRunsSettleFirst(t *testing.T) {
	commands := []api.Command{
		submit("new", single), poll(ann), complete(bob, 3, "x"), fail(bob, 3), beat(bob, 3), approve(bob, 4, gateAt), deny(bob, 4, gateAt), cancel(2), cancel(3),
	}
	for _, c := range commands {
		p := opened(t, gated, 0, "x") // until 6
		keeps(t, p, 0, submit("a", again), number(1))
		keeps(t, p, 0, poll(ann), taken(2, "1,0,0,")) // until 3
		keeps(t, p, 1, submit("b", "pipe p\ntask a time 100"), number(2))
		keeps(t, p, 1, poll(bob), taken(3, "2,0,0,"))
		keeps(t, p, 3, submit("c", single), number(3))
		keeps(t, p, 3, poll(ann), taken(4, "3,0,0,")) // until 7
		keeps(t, p, 4, submit("d", easy), number(4))
		keeps(t, p, 4, poll(ann), taken(5, "1,0,0,")) // until 7
		keeps(t, p, 4, poll(ann), taken(6, "4,0,0,"))
		keeps(t, p, 4, complete(ann, 6, "x"), fine) // until 10
		keeps(t, p, 5, submit("e", single), number(5))
		stands(t, p, 5, "6,0,1,g0,3,3,1,0,1,1,r0,1,2,2,1,p0,1,2,3,1,s0,1,2,4,1,e0,3,3,1,0,5,1,s0,1,1,")
		if c.Kind != api.CCancel || c.N != 3 {
			later := p.Copy()
			if answer, _ := later.Do(7, c); answer.Err != api.OK {
				t.Fatal(c, answer)
			}
			// Seen at an earlier time: what was settled stays so.
			if s := later.Status(0); !strings.Contains(s, "0,1,g2,3,3,4,0,1,1,r0,1,1,") || !strings.Contains(s, "3,1,s2,1,4,") {
				t.Error(c, s)
			}
			noLease(t, later, 6, ann, 4)
			noLease(t, later, 6, ann, 5)
			noVote(t, later, 5, bob, 0, gateAt, api.ErrState)
			continue
		}
		keeps(t, p, 7, c, wrong(api.ErrState))
	}
}

// What a command finds is what is settled at its time: a task that was missed is ready for it.
func TestSettledFirst(t *testing.T) {
	p := fresh(t)
	keeps(t, p, 0, submit("a", again), number(0))
	keeps(t, p, 0, poll(ann), taken(1, "0,0,0,"))
	keeps(t, p, 3, poll(bob), wrong(api.ErrNone)) // from 4 on
	keeps(t, p, 4, poll(bob), taken(2, "0,0,0,"))
	// Missed at 7, the second time: from 9 on, whenever that is found.
	keeps(t, p, 8, poll(bob), wrong(api.ErrNone))
	keeps(t, p.Copy(), 9, poll(bob), taken(3, "0,0,0,"))
	keeps(t, p, 500, poll(cid), taken(3, "0,0,0,"))
	stands(t, p, 502, "1,0,1,r0,1,2,")
	stands(t, p, 503, "1,0,1,r2,1,4,")
}

// Where several errors apply.
func TestFirstError(t *testing.T) {
	p := full(t)
	for _, c := range []struct {
		c    api.Command
		want api.Answer
	}{
		{submit("", "pip"), wrong(api.ErrArg)},
		{submit(key(3), "pip"), fault(api.ErrOnce, 3)},
		{submit("new", "pip"), wrong(api.ErrFull)},
		{complete(bob, 2, strings.Repeat("o", 33)), wrong(api.ErrLease)},
		{complete(ann, 2, strings.Repeat("o", 33)), wrong(api.ErrArg)},
		{approve(eve, 16, 0), wrong(api.ErrNone)},
		{approve(eve, 0, 0), wrong(api.ErrRange)},
		{approve(eve, 0, 4), wrong(api.ErrState)},
		{approve(eve, 0, 1), wrong(api.ErrLabel)},
		{approve(ann, 0, 1), wrong(api.ErrOnce)},
		{deny(eve, 16, 0), wrong(api.ErrNone)},
		{deny(eve, 0, 0), wrong(api.ErrRange)},
		{deny(eve, 0, 4), wrong(api.ErrState)},
		{deny(eve, 0, 1), wrong(api.ErrLabel)},
	} {
		keeps(t, p, 1, c.c, c.want)
	}
	keeps(t, p, 1, cancel(0), fine)
	for _, who := range []int{eve, ann, nobody} {
		noVote(t, p, 1, who, 0, 0, api.ErrRange) // of a run that is over, too
		noVote(t, p, 1, who, 0, 1, api.ErrState)
	}
	// A manifest's error comes ahead of what isn't fit, that by places; and all ahead of nothing.
	q := fresh(t)
	keeps(t, q, 0, submit("k", "pipe p\ntask a after a\ntask b after z"), fault(api.ErrNone, 35))
	keeps(t, q, 0, submit("k", "pipe p\ntask a after a\ngate g to 7:0000 need 1"), fault(api.ErrCycle, 0))
}

// The chapter's example, and the first of the whole.
func TestOneTask(t *testing.T) {
	p := fresh(t)
	keeps(t, p, 0, submit("k", "pipe p\ntask a"), number(0))
	keeps(t, p, 0, poll(ann), taken(1, "0,0,0,"))
	keeps(t, p, 0, complete(ann, 1, "done"), fine)
	stands(t, p, 0, "1,0,1,p1,1,3,")
}

// Any time may be that of a command.
func TestAnyTime(t *testing.T) {
	for _, now := range []int{-1 << 40, -1, 0, 1, 1000, 1001, 1 << 40} {
		p := opened(t, easy, now, "x")
		keeps(t, p, now+6, approve(ann, 0, gateAt), wrong(api.ErrState))
		goes(t, p, now+5, approve(ann, 0, gateAt), api.Release{Tick: now + 5, From: own, Task: gateAt, Text: "x"})
		keeps(t, p, now+4, poll(ann), wrong(api.ErrNone))
		keeps(t, p, now+5, poll(ann), taken(2, "0,2,3,1,x"))
	}
	for _, now := range []int{math.MinInt, math.MaxInt} { // nothing is promised, but that it ends
		p := fresh(t)
		for _, c := range []api.Command{submit("k", easy), poll(ann), complete(ann, 1, "x"), approve(ann, 0, 1), cancel(0)} {
			p.Do(now, c)
		}
		p.Let(now, 0, 1)
		p.Status(now)
	}
}

// P14.2

// noLet holds that nothing goes, and nothing is changed.
func noLet(t *testing.T, p *Part, now, id, task int) {
	t.Helper()
	stays(t, p, "Let", func() {
		if p.Let(now, id, task) {
			t.Errorf("Let(%d, %d, %d)", now, id, task)
		}
	})
}

// isOpen holds whether a gate is open against what it should be.
func isOpen(t *testing.T, p *Part, id, task int, want bool) {
	t.Helper()
	stays(t, p, "Open", func() {
		if p.Open(id, task) != want {
			t.Errorf("Open(%d, %d): %v", id, task, !want)
		}
	})
}

// noPlaces are such as no pipeline here has.
func noPlaces() []int { return []int{-1, -2, 8, 9, math.MinInt, math.MaxInt} }

func TestLet(t *testing.T) {
	p := opened(t, gated, 3, "x") // till 9
	isOpen(t, p, 0, gateAt, true)
	noLet(t, p, 9, 0, gateAt)
	noLet(t, p, 1000, 0, gateAt)
	for _, votes := range []int{0, 1} { // they aren't asked for
		one := p.Copy()
		for who := range votes {
			keeps(t, one, 4, approve(who, 0, gateAt), fine)
		}
		if !one.Let(8, 0, gateAt) {
			t.Fatal(votes)
		}
		stands(t, one, 8, "1,0,1,g0,3,3,3,1,")
		isOpen(t, one, 0, gateAt, false)
		noLet(t, one, 8, 0, gateAt) // it is done
		keeps(t, one, 7, poll(bob), wrong(api.ErrNone))
		keeps(t, one, 8, poll(bob), taken(2, "0,2,3,1,x"))
	}
}

// Behind Let it is as behind the vote with which the gate goes.
func TestLetIsAsTheLastVote(t *testing.T) {
	for _, text := range []string{gated, easy, sides} {
		p := opened(t, text, 0, "x")
		if text == gated {
			keeps(t, p, 1, approve(ann, 0, gateAt), fine)
		}
		voted := p.Copy()
		goes(t, voted, 2, approve(bob, 0, gateAt), api.Release{Tick: 2, From: own, Task: gateAt, Text: "x"})
		if !p.Let(2, 0, gateAt) || p.Text() != voted.Text() {
			t.Errorf("%q, not %q", p.Text(), voted.Text())
		}
	}
}

func TestLetOfWhatIsNotOpen(t *testing.T) {
	p := fresh(t)
	not := func(id, task int) {
		t.Helper()
		isOpen(t, p, id, task, false)
		for _, now := range []int{-5, 0, 1, 5, 1000} {
			noLet(t, p, now, id, task)
		}
	}
	not(0, 0)
	keeps(t, p, 0, submit("k", gated), number(0))
	keeps(t, p, 0, submit("l", easy), number(1))
	keeps(t, p, 0, submit("m", easy), number(2))
	for _, id := range []int{-1, 3, 16, math.MinInt, math.MaxInt} {
		for _, task := range []int{0, gateAt, -1} {
			not(id, task)
		}
	}
	for id := range 3 {
		for _, task := range append(noPlaces(), 0, 2, 3) {
			not(id, task)
		}
		not(id, gateAt) // it waits
	}
	for id := range 3 {
		keeps(t, p, 0, poll(ann), taken(id+1, strconv.Itoa(id)+",0,0,"))
		not(id, 0) // a task that is held
		keeps(t, p, 0, complete(ann, id+1, "x"), fine)
		not(id, 0)
		isOpen(t, p, id, gateAt, true)
	}
	keeps(t, p, 1, deny(ann, 0, gateAt), fine)
	not(0, gateAt) // it has failed
	goes(t, p, 1, approve(ann, 1, gateAt), api.Release{Tick: 1, From: own, Run: 1, Task: gateAt, Text: "x"})
	not(1, gateAt) // it is done
	keeps(t, p, 1, cancel(2), fine)
	not(2, gateAt) // its run is over
}

// Let settles all runs at its time, where it goes; nothing is settled else.
func TestLetSettles(t *testing.T) {
	p := opened(t, easy, 2, "x") // till 8
	keeps(t, p, 2, submit("a", again), number(1))
	keeps(t, p, 2, poll(ann), taken(2, "1,0,0,")) // until 5
	noLet(t, p, 6, 1, 0)
	noLet(t, p, 6, 0, 0)
	noLet(t, p, 6, 2, gateAt)
	noLet(t, p, 8, 0, gateAt)
	hasLease(t, p, 4, ann, 2)
	if !p.Let(6, 0, gateAt) {
		t.Fatal("it doesn't go")
	}
	noLease(t, p, 4, ann, 2)
	stands(t, p, 0, "2,0,1,e0,3,3,3,1,1,1,r0,1,1,")
	// Its own run fails with that time.
	q := fresh(t)
	keeps(t, q, 0, submit("k", "pipe p\ntask a\ngate g after a to 0:0000 need 1\ntask b time 3"), number(0))
	keeps(t, q, 0, poll(ann), taken(1, "0,0,0,"))
	keeps(t, q, 0, poll(ann), taken(2, "0,2,0,"))
	keeps(t, q, 0, complete(ann, 1, "x"), fine)
	noLet(t, q, 3, 0, 1)
	if !q.Let(2, 0, 1) {
		t.Error("it doesn't go")
	}
}

// Open asks no time.
func TestOpen(t *testing.T) {
	p := opened(t, "pipe p\ntask a\ngate g after a to 0:0000 need 1 time 1\ngate h after g to 0:0000 need 1", 5, "x")
	isOpen(t, p, 0, 1, true)
	isOpen(t, p, 0, 2, false)
	noLet(t, p, 6, 0, 1)
	isOpen(t, p, 0, 1, true) // nobody has settled it
	late := p.Copy()
	keeps(t, late, 6, submit("other", single), number(1))
	isOpen(t, late, 0, 1, false)
	isOpen(t, late, 0, 2, false)
	if !p.Let(5, 0, 1) {
		t.Error("it doesn't go")
	}
	isOpen(t, p, 0, 1, false)
	isOpen(t, p, 0, 2, true)
}

// goal holds to where a gate goes against what it should be.
func goal(t *testing.T, p *Part, id, task, want int) {
	t.Helper()
	stays(t, p, "Goal", func() {
		if got := p.Goal(id, task); got != want {
			t.Errorf("Goal(%d, %d): %d, not %d", id, task, got, want)
		}
	})
}

func TestGoal(t *testing.T) {
	p := fresh(t)
	goal(t, p, 0, 0, -1)
	keeps(t, p, 0, submit("k", "pipe p\ntask a\ngate g after a to 3:0002 need 1\ntask b\ngate h after g to 0:0000 need 1"), number(0))
	keeps(t, p, 0, submit("l", easy), number(1))
	stages := func() {
		t.Helper()
		for task, want := range []int{-1, aside, -1, low} { // of a task it is none, though low has the label 0:0000
			goal(t, p, 0, task, want)
		}
		for task, want := range []int{-1, low, -1, -1} {
			goal(t, p, 1, task, want)
		}
		for _, place := range append(noPlaces(), 4) {
			goal(t, p, 0, place, -1)
		}
		for _, id := range []int{-1, 2, 16, math.MinInt, math.MaxInt} {
			goal(t, p, id, 1, -1)
		}
	}
	stages()
	keeps(t, p, 0, poll(ann), taken(1, "0,0,0,"))
	keeps(t, p, 0, complete(ann, 1, "x"), fine)
	stages()
	if !p.Let(0, 0, 1) {
		t.Fatal("it doesn't go")
	}
	stages()
	keeps(t, p, 0, cancel(0), fine)
	stages()
	// A label that no partition has: of a text that is read.
	few := Parse(p.Text(), rosterOf(t, labels[1:], nil), 0)
	if few == nil {
		t.Fatal("none")
	}
	goal(t, few, 0, 1, 1)
	goal(t, few, 0, 3, -1)
	goal(t, few, 1, 1, -1)
}

func TestStatus(t *testing.T) {
	p := fresh(t)
	for _, now := range []int{-1, 0, 1000} {
		stands(t, p, now, "0,")
	}
	keeps(t, p, 0, submit("a", gated), number(0))
	stands(t, p, 0, "1,0,1,g0,3,1,0,0,")
	keeps(t, p, 0, submit("b", "pipe abcdefgh\ntask a time 2\ntask b after a\ntask c retry 1 time 2"), number(1))
	keeps(t, p, 0, poll(ann), taken(1, "0,0,0,"))
	keeps(t, p, 0, poll(ann), taken(2, "1,0,0,"))
	keeps(t, p, 0, poll(ann), taken(3, "1,2,0,"))
	keeps(t, p, 0, complete(ann, 1, "x"), fine) // the gate is open till 6
	// At which nothing settles, and at which something does: it changes nothing.
	for _, c := range []struct {
		now  int
		want string
	}{
		{0, "2,0,1,g0,3,3,1,0,1,8,abcdefgh0,3,2,0,2,"}, {1, "2,0,1,g0,3,3,1,0,1,8,abcdefgh0,3,2,0,2,"}, {2, "2,0,1,g0,3,3,1,0,1,8,abcdefgh2,3,4,0,1,"}, {5, "2,0,1,g0,3,3,1,0,1,8,abcdefgh2,3,4,0,1,"},
		{6, "2,0,1,g2,3,3,4,0,1,8,abcdefgh2,3,4,0,1,"}, {1000, "2,0,1,g2,3,3,4,0,1,8,abcdefgh2,3,4,0,1,"}, {0, "2,0,1,g0,3,3,1,0,1,8,abcdefgh0,3,2,0,2,"},
	} {
		stays(t, p, "Status", func() { stands(t, p, c.now, c.want) })
	}
	hasLease(t, p, 1, ann, 2)
	keeps(t, p, 1, cancel(1), fine)
	keeps(t, p, 1, submit("c", single), number(2))
	keeps(t, p, 1, poll(ann), taken(4, "2,0,0,"))
	keeps(t, p, 1, complete(ann, 4, "x"), fine)
	stands(t, p, 1, "3,0,1,g0,3,3,1,0,1,8,abcdefgh3,3,2,0,2,2,1,s1,1,3,")
	stands(t, p, 9, "3,0,1,g2,3,3,4,0,1,8,abcdefgh3,3,2,0,2,2,1,s1,1,3,")
}

func TestStatusOfMany(t *testing.T) {
	p, want := fresh(t), "16,"
	for i := range api.MaxRuns {
		keeps(t, p, 0, submit(key(i), single), number(i))
		want += strconv.Itoa(i) + ",1,s0,1,1,"
		if p.Runs() != i+1 {
			t.Error(i, p.Runs())
		}
	}
	stands(t, p, 0, want)
	keeps(t, p, 0, submit("more", single), wrong(api.ErrFull))
	if p.Runs() != api.MaxRuns {
		t.Error(p.Runs())
	}
}

// busy is own with a run whose gate is open and has a vote, one with a task that is held until 5, and one with a task that is ready.
func busy(t testing.TB) *Part {
	t.Helper()
	p := opened(t, gated, 0, "x")
	keeps(t, p, 0, approve(ann, 0, gateAt), fine)
	keeps(t, p, 2, submit("a", again), number(1))
	keeps(t, p, 2, poll(bob), taken(2, "1,0,0,"))
	keeps(t, p, 2, submit("b", single), number(2))
	return p
}

// changes are all that makes something else of busy.
func changes(t *testing.T) map[string]func(p *Part) {
	command := func(now int, c api.Command) func(p *Part) {
		return func(p *Part) {
			if answer, _ := p.Do(now, c); answer.Err != api.OK {
				t.Fatal(c, answer)
			}
		}
	}
	return map[string]func(p *Part){
		"submit": command(3, submit("c", single)), "poll": command(3, poll(cid)), "complete": command(3, complete(bob, 2, "y")), "fail": command(3, fail(bob, 2)), "beat": command(3, beat(bob, 2)),
		"approve": command(3, approve(bob, 0, gateAt)), "deny": command(3, deny(bob, 0, gateAt)), "cancel": command(3, cancel(2)), "late": command(5, cancel(2)),
		"let": func(p *Part) {
			if !p.Let(3, 0, gateAt) {
				t.Fatal("it doesn't go")
			}
		},
	}
}

// Nothing that is done to a copy changes what it was made of, nor the other way round.
func TestCopy(t *testing.T) {
	if c := fresh(t).Copy(); c == nil || c.Text() != "0,0," {
		t.Error("of none")
	}
	for name, change := range changes(t) {
		for other, also := range changes(t) {
			p := busy(t)
			was := p.Text()
			one, two := p.Copy(), p.Copy()
			if one.Text() != was || one.Runs() != 3 || one.Status(9) != p.Status(9) {
				t.Errorf("%s: %q", name, one.Text())
			}
			change(one)
			changed := one.Text()
			if changed == was || p.Text() != was || two.Text() != was {
				t.Errorf("%s: %q, %q", name, p.Text(), two.Text())
			}
			also(p)
			behind := p.Text()
			if one.Text() != changed || two.Text() != was {
				t.Errorf("%s, %s: %q, %q", name, other, one.Text(), two.Text())
			}
			also(two)
			if one.Text() != changed || two.Text() != behind || p.Text() != behind {
				t.Errorf("%s, %s: %q, %q, %q", name, other, one.Text(), two.Text(), behind)
			}
		}
	}
}

// Runs that begin behind a copy stand in lists of their own, however much room there was.
func TestCopyThenSubmit(t *testing.T) {
	for runs := range api.MaxRuns {
		p := fresh(t)
		for i := range runs {
			keeps(t, p, 0, submit(key(i), single), number(i))
		}
		one := p.Copy()
		keeps(t, p, 1, submit("p", gated), number(runs))
		keeps(t, one, 2, submit("one", easy), number(runs))
		keeps(t, p, 3, submit("p", single), fault(api.ErrOnce, runs))
		keeps(t, one, 3, submit("one", single), fault(api.ErrOnce, runs))
		if !strings.HasSuffix(p.Status(3), ",1,g0,3,1,0,0,") || !strings.HasSuffix(one.Status(3), ",1,e0,3,1,0,0,") {
			t.Error(runs, p.Status(3), one.Status(3))
		}
	}
}

// What was answered doesn't change, and what is written into it changes nothing.
func TestAnswersStay(t *testing.T) {
	p := busy(t)
	answer, release := p.Do(3, approve(bob, 0, gateAt))
	if answer != number(1) || release == nil {
		t.Fatal(answer)
	}
	was := *release
	polled, _ := p.Do(3, poll(cid))
	text, status := p.Text(), p.Status(3)
	if polled != taken(3, "2,0,0,") {
		t.Fatal(polled)
	}
	goesOn := p.Copy()
	for _, c := range []api.Command{complete(cid, 3, "z"), poll(ann), submit("d", easy), poll(ann), cancel(0), cancel(1)} {
		keepsOn, _ := goesOn.Do(4, c)
		if keepsOn.Err != api.OK {
			t.Fatal(c, keepsOn)
		}
	}
	if *release != was || polled != taken(3, "2,0,0,") || p.Text() != text || p.Status(3) != status {
		t.Error(*release, polled)
	}
	*release = api.Release{Tick: 99, From: 98, Run: 97, Task: 96, Text: "other"}
	if p.Text() != text || p.Status(3) != status {
		t.Error(p.Text())
	}
}

// A roster and a text may be those of several partitions: none feels another one.
func TestWhatIsHandedInStays(t *testing.T) {
	r, like := rosterOf(t, labels, people), rosterOf(t, labels, people)
	one, two, read := New(r, own), New(r, own), Parse("0,0,", r, own)
	command := submit("k", gated)
	for _, c := range []api.Command{command, poll(ann), complete(ann, 1, "x"), approve(ann, 0, gateAt), approve(bob, 0, gateAt), cancel(0)} {
		was := c
		if answer, _ := one.Do(0, c); answer.Err != api.OK || c != was {
			t.Fatal(c, answer)
		}
	}
	for _, p := range []*Part{two, read} {
		if p.Text() != "0,0," {
			t.Error(p.Text())
		}
		keeps(t, p, 0, command, number(0))
	}
	if r.Parts() != like.Parts() || r.People() != like.People() {
		t.Error(r.Parts(), r.People())
	}
	for part := range parts {
		label, _ := r.Label(part)
		if label != labels[part] || !slices.Equal(check.Voters(r, part, api.Label{}), check.Voters(like, part, api.Label{})) {
			t.Error(part, label)
		}
	}
}

// P14.3

// The texts of the pipelines of written.
const (
	gatedText = "1,g3,1,a0,0,3,0,0,0,1,g1,0,0,6,2,0,0,1,b1,1,0,5,0,0,0,"
	againText = "1,r1,1,a0,2,3,0,0,0,"
	waits     = "0,0,0,0,0,0,0,0,0,"
)

// written are partitions at each stage of their way, and what each is as a text.
func written(t *testing.T) map[string]*Part {
	t.Helper()
	list := map[string]*Part{}
	p := fresh(t)
	keep := func(s string) { list[s] = p.Copy() }
	keep("0,0,")
	keeps(t, p, 4, submit("deploy", gated), number(0))
	keep("0,1,6,deploy" + gatedText + "1,4,0,0,0,0,0,0,0," + waits + waits + "0,")
	keeps(t, p, 5, poll(bob), taken(1, "0,0,0,"))
	keep("1,1,6,deploy" + gatedText + "2,0,0,1,1,8,0,0,0," + waits + waits + "0,")
	keeps(t, p, 6, submit("b", again), number(1))
	keeps(t, p, 6, poll(eve), taken(2, "1,0,0,"))
	keep("2,2,6,deploy" + gatedText + "2,0,0,1,1,8,0,0,0," + waits + waits + "0," + "1,b" + againText + "2,0,0,4,2,9,0,0,0," + "0,")
	keeps(t, p, 7, complete(bob, 1, "a,1,"), fine)
	keep("2,2,6,deploy" + gatedText + "3,0,0,0,0,0,4,a,1,0,0," + "1,7,0,0,0,0,0,0,0," + waits + "0," + "1,b" + againText + "2,0,0,4,2,9,0,0,0," + "0,")
	keeps(t, p, 9, approve(cid, 0, gateAt), fine)
	keep("2,2,6,deploy" + gatedText + "3,0,0,0,0,0,4,a,1,0,0," + "1,7,0,0,0,0,0,1,2,0," + waits + "0," + "1,b" + againText + "1,10,1,0,0,0,0,0,0," + "0,")
	late := p.Copy()
	keeps(t, p, 10, deny(ann, 0, gateAt), fine)
	keep("2,2,6,deploy" + gatedText + "3,0,0,0,0,0,4,a,1,0,0," + "4,0,0,0,0,0,0,1,2,1," + waits + "0," + "1,b" + againText + "1,10,1,0,0,0,0,0,0," + "0,")
	p = late
	goes(t, p, 11, approve(ann, 0, gateAt), api.Release{Tick: 11, From: own, Task: gateAt, Text: "a,1,"})
	keep("2,2,6,deploy" + gatedText + "3,0,0,0,0,0,4,a,1,0,0," + "3,0,0,0,0,0,4,a,1,0,0," + "1,11,0,0,0,0,0,0,0," + "0," + "1,b" + againText + "1,10,1,0,0,0,0,0,0," + "0,")
	keeps(t, p, 12, poll(dan), taken(3, "1,0,0,"))
	keeps(t, p, 12, cancel(1), fine)
	keeps(t, p, 12, poll(dan), taken(4, "0,2,6,4,a,1,"))
	keeps(t, p, 12, complete(dan, 4, "\xff"), fine)
	keep("4,2,6,deploy" + gatedText + "3,0,0,0,0,0,4,a,1,0,0," + "3,0,0,0,0,0,4,a,1,0,0," + "3,0,0,0,0,0,1,\xff0,0," + "0," + "1,b" + againText + "2,0,1,3,3,15,0,0,0," + "1,")
	return list
}

func TestText(t *testing.T) {
	for want, p := range written(t) {
		stays(t, p, "Text", func() {
			if got := p.Text(); got != want {
				t.Errorf("%q, not %q", got, want)
			}
		})
	}
}

func TestParse(t *testing.T) {
	r := rosterOf(t, labels, people)
	for s, wrote := range written(t) {
		p := Parse(s, r, own)
		if p == nil {
			t.Fatalf("%q: none", s)
		}
		if p.Text() != s || p.Runs() != wrote.Runs() {
			t.Errorf("%q, not %q", p.Text(), s)
		}
		for _, now := range []int{0, 8, 10, 1000} {
			if p.Status(now) != wrote.Status(now) {
				t.Errorf("%q: %q, not %q", s, p.Status(now), wrote.Status(now))
			}
		}
		for size := range len(s) {
			noPart(t, s[:size])
		}
		for _, behind := range []string{" ", ",", "0", "0,", "x", "\n", s} {
			noPart(t, s+behind)
		}
	}
}

// noPart is a text that is none's.
func noPart(t *testing.T, s string) {
	t.Helper()
	if p := Parse(s, rosterOf(t, labels, people), own); p != nil {
		t.Errorf("%q: %q", s, p.Text())
	}
}

// somePart is a text that is one's.
func somePart(t *testing.T, s string) *Part {
	t.Helper()
	p := Parse(s, rosterOf(t, labels, people), own)
	if p == nil || p.Text() != s {
		t.Fatalf("%q: none, or another one", s)
	}
	return p
}

// Each command answers the same as of the one that was written.
func TestParseGoesOn(t *testing.T) {
	r := rosterOf(t, labels, people)
	var commands []api.Command
	for who := range nobody + 1 {
		commands = append(commands, poll(who), approve(who, 0, 1), deny(who, 0, 1))
		for n := range 6 {
			commands = append(commands, complete(who, n, "y"), fail(who, n), beat(who, n))
		}
	}
	for n := -1; n < 4; n++ {
		commands = append(commands, cancel(n), submit(key(n+1), easy), approve(bob, n, 1), approve(bob, 0, n))
	}
	commands = append(commands, submit("deploy", easy), submit("b", easy), submit("B", easy), submit("c", "pip"), submit("c", "pipe p\ntask a after a"))
	met := map[api.Errno]int{}
	for s, wrote := range written(t) {
		for _, now := range []int{0, 5, 7, 8, 10, 13} {
			for _, c := range commands {
				one, two := wrote.Copy(), Parse(s, r, own)
				answer, release := one.Do(now, c)
				same, also := two.Do(now, c)
				if answer != same || (release == nil) != (also == nil) || release != nil && *release != *also || one.Text() != two.Text() {
					t.Fatalf("%q: %d: %v: %v, not %v", s, now, c, same, answer)
				}
				met[answer.Err]++
			}
			for id := -1; id < 3; id++ {
				for task := -1; task < 4; task++ {
					one, two := wrote.Copy(), Parse(s, r, own)
					if one.Open(id, task) != two.Open(id, task) || one.Goal(id, task) != two.Goal(id, task) || one.Let(now, id, task) != two.Let(now, id, task) || one.Text() != two.Text() {
						t.Fatalf("%q: %d: %d %d", s, now, id, task)
					}
				}
			}
		}
	}
	for _, e := range []api.Errno{api.OK, api.ErrArg, api.ErrOnce, api.ErrWord, api.ErrCycle, api.ErrNone, api.ErrLease, api.ErrRange, api.ErrState, api.ErrLabel} {
		if met[e] == 0 {
			t.Error("never", e)
		}
	}
}

// plainRun is the text of a run, behind its key's.
const plainRun = "1,s1,1,a0,0,4,0,0,0," + "1,3,0,0,0,0,0,0,0," + "0,"

// runsOf is the text of as many runs, of other keys.
func runsOf(n int) string {
	s := ""
	for i := range n {
		s += "3," + key(i) + plainRun
	}
	return s
}

func TestParseOfNumbers(t *testing.T) {
	for _, leases := range []string{"0", "1", "16", "1000000", "1000001", "2147483648", "9223372036854775807"} {
		somePart(t, leases+",0,")
		somePart(t, leases+",1,1,k"+plainRun)
	}
	for _, leases := range []string{"-1", "-9223372036854775808", "9223372036854775808", "00", "01", "-0", "+1", "", " 1", "1 ", "a", "1.0", "1e3"} {
		noPart(t, leases+",0,")
		noPart(t, leases+",1,1,k"+plainRun)
	}
	for n := range 20 {
		if n <= api.MaxRuns {
			if p := somePart(t, "0,"+strconv.Itoa(n)+","+runsOf(n)); p.Runs() != n {
				t.Error(n, p.Runs())
			}
			noPart(t, "0,"+strconv.Itoa(n)+","+runsOf(n+1)) // one more stands behind it
		} else {
			noPart(t, "0,"+strconv.Itoa(n)+","+runsOf(n))
		}
		noPart(t, "0,"+strconv.Itoa(n+1)+","+runsOf(n)) // one is missing
	}
	for _, runs := range []string{"-1", "-0", "00", "01", "+1", "", "a", "17", "1000000000", "9223372036854775807", "-9223372036854775808"} {
		noPart(t, "0,"+runs+",")
		noPart(t, "0,"+runs+","+runsOf(1))
	}
	for _, s := range []string{"", ",", "0", "0,", "0,0", "00,", "0;0,", "0,0;", " 0,0,", "0, 0,", "0,,0,", "\n0,0,"} {
		noPart(t, s)
	}
}

// Leases go on from the number that was read.
func TestParseOfLeases(t *testing.T) {
	for _, leases := range []int{0, 1, 7, 999999} {
		p := somePart(t, strconv.Itoa(leases)+",2,"+runsOf(2))
		keeps(t, p, 3, poll(ann), taken(leases+1, "0,0,0,"))
		keeps(t, p, 3, poll(ann), taken(leases+2, "1,0,0,"))
	}
}

func TestParseOfKeys(t *testing.T) {
	text := func(s string) string { return strconv.Itoa(len(s)) + "," + s }
	for _, k := range []string{"a", "z", "abcdefgh"} {
		p := somePart(t, "0,1,"+text(k)+plainRun)
		keeps(t, p, 0, submit(k, single), fault(api.ErrOnce, 0))
	}
	for _, k := range noKeys() {
		noPart(t, "0,1,"+text(k)+plainRun)
		noPart(t, "0,2,"+text("k")+plainRun+text(k)+plainRun)
	}
	for _, length := range []string{"-1", "0", "2", "00", "01", "9", "", "a"} {
		noPart(t, "0,1,"+length+",k"+plainRun)
	}
	// Twice, wherever.
	somePart(t, "0,3,1,a"+plainRun+"1,b"+plainRun+"1,c"+plainRun)
	noPart(t, "0,2,1,a"+plainRun+"1,a"+plainRun)
	noPart(t, "0,3,1,a"+plainRun+"1,b"+plainRun+"1,a"+plainRun)
	noPart(t, "0,3,1,a"+plainRun+"1,b"+plainRun+"1,b"+plainRun)
	other := strings.Replace(plainRun, "1,s1,1,a", "1,q1,1,b", 1) // whatever the run is
	somePart(t, "0,2,1,a"+plainRun+"1,b"+other)
	noPart(t, "0,2,1,a"+plainRun+"1,a"+other)
}

// What layer 13 refuses, and what it reads.
func TestParseOfRuns(t *testing.T) {
	line := "1,s1,1,a0,0,4,0,0,0,"
	try := "1,3,0,0,0,0,0,0,0,"
	run := line + try + "0,"
	if run != plainRun {
		t.Fatal(run)
	}
	for _, c := range []struct{ part, may, not string }{
		{line, "8,abcdefgh1,1,a0,0,4,0,0,0,", "9,abcdefghi1,1,a0,0,4,0,0,0,"}, {line, "1,z1,1,a0,0,4,0,0,0,", "1,Z1,1,a0,0,4,0,0,0,"}, {line, "1,z1,1,a0,0,4,0,0,0,", "1,z0,"}, {line, "1,z1,1,a0,0,4,0,0,0,", "1,z2,1,a0,0,4,0,0,0,"},
		{line, "1,s1,1,a0,5,4,0,0,0,", "1,s1,1,a0,6,4,0,0,0,"}, {line, "1,s1,1,a0,0,100,0,0,0,", "1,s1,1,a0,0,101,0,0,0,"}, {line, line, "1,s1,1,a1,0,0,4,0,0,0,"}, {line, line, "1,s1,1,a0,0,4,1,0,0,"}, {line, line, "1,s1,1,a0,0,4,0,1,0,"},
		{try, "2,0,6,1,1,1,1,x0,0,", "2,0,7,1,1,1,1,x0,0,"}, {try, "4,0,6,0,0,0,1,x0,0,", "5,0,0,0,0,0,1,x0,0,"}, {try, "1,1000000,0,0,0,0,0,0,0,", "1,1000001,0,0,0,0,0,0,0,"}, {try, try, "1,-3,0,0,0,0,0,0,0,"},
		{try, "3,0,0,0,0,0,32," + strings.Repeat("o", 32) + "0,0,", "3,0,0,0,0,0,33," + strings.Repeat("o", 33) + "0,0,"}, {try, "1,3,0,0,0,0,0,1,11,0,", "1,3,0,0,0,0,0,1,12,0,"}, {try, "1,3,0,0,0,0,0,2,3,4,1,", "1,3,0,0,0,0,0,2,4,3,1,"},
		{try + "0,", try + "1,", try + "2,"}, {try + "0,", try + "0,", try + "-1,"}, {try + "0,", try + "0,", try + "0"}, {try + "0,", try + "0,", try},
	} {
		may, not := strings.Replace(run, c.part, c.may, 1), strings.Replace(run, c.part, c.not, 1)
		somePart(t, "5,1,1,k"+may)
		somePart(t, "5,2,1,k"+may+"1,l"+plainRun)
		somePart(t, "5,2,1,l"+plainRun+"1,k"+may)
		noPart(t, "5,1,1,k"+not)
		noPart(t, "5,2,1,k"+not+"1,l"+plainRun)
		noPart(t, "5,2,1,l"+plainRun+"1,k"+not)
	}
}

// A run is read such as it could be made by itself: whether it is fit for the partition isn't asked, nor by which leases its tasks are held.
func TestParseOfRunsThatWouldNotBegin(t *testing.T) {
	const above = "0,1,1,k" + "1,p2,1,a0,0,4,0,0,0,1,g1,0,0,4,4,7,1," + "3,0,0,0,0,0,1,x0,0," + "1,2,0,0,0,0,0,0,0," + "0,"
	p := somePart(t, above)
	isOpen(t, p, 0, 1, true)
	goal(t, p, 0, 1, -1)
	keeps(t, p, 3, approve(eve, 0, 1), fine) // up all may flow
	if !p.Let(3, 0, 1) {
		t.Error("it doesn't go")
	}
	const later = "0,1,1,k" + "1,s1,1,a0,0,4,0,0,0," + "2,0,0,4,9,8,0,0,0," + "0,"
	p = somePart(t, later)
	keeps(t, p, 3, complete(eve, 9, "x"), fine)
	// Of two tasks by one lease it is that of the first run.
	const twice = "0,2,1,k" + "1,s1,1,a0,0,4,0,0,0," + "2,0,0,4,9,8,0,0,0," + "0," + "1,l" + "1,s1,1,a0,0,4,0,0,0," + "2,0,0,4,9,8,0,0,0," + "0,"
	p = somePart(t, twice)
	keeps(t, p, 3, complete(eve, 9, "x"), fine)
	stands(t, p, 3, "2,0,1,s1,1,3,1,1,s0,1,2,")
	keeps(t, p, 3, fail(eve, 9), fine)
	stands(t, p, 3, "2,0,1,s1,1,3,1,1,s2,1,4,")
	// One vote against it is there, or as many as are needed.
	const no = "1,1,1,k" + "1,e2,1,a0,0,3,0,0,0,1,g1,0,0,6,1,0,0," + "3,0,0,0,0,0,1,x0,0," + "1,0,0,0,0,0,0,0,1," + "0,"
	keeps(t, somePart(t, no), 3, approve(ann, 0, 1), fine)
	enough := strings.Replace(no, "0,0,0,1,0,", "0,0,1,3,0,0,", 1)
	keeps(t, somePart(t, enough), 3, approve(dan, 0, 1), wrong(api.ErrOnce))
	goes(t, somePart(t, enough), 3, approve(ann, 0, 1), api.Release{Tick: 3, From: own, Task: 1, Text: "x"})
}

func TestParseOfPartitions(t *testing.T) {
	r := rosterOf(t, labels, people)
	for s := range written(t) {
		for part := range parts {
			if p := Parse(s, r, part); p == nil || p.Text() != s {
				t.Error(part)
			}
		}
		for _, part := range []int{-1, parts, math.MinInt, math.MaxInt} {
			if Parse(s, r, part) != nil {
				t.Error(part)
			}
		}
		for part := -1; part <= parts; part++ {
			if Parse(s, nil, part) != nil || Parse(s, &roster.Roster{}, part) != nil {
				t.Error(part, "no roster")
			}
		}
	}
	// It is of the partition that is told.
	for part := range parts {
		p := Parse(opened(t, easy, 0, "x").Text(), r, part)
		goes(t, p, 1, approve(ann, 0, gateAt), api.Release{Tick: 1, From: part, Task: gateAt, Text: "x"})
		goal(t, p, 0, gateAt, low)
	}
}

// Each text with one byte changed, left out or put in is read only if it is what that partition writes.
func TestParseOfOneByteChanged(t *testing.T) {
	r, met := rosterOf(t, labels, people), map[bool]int{}
	for s := range written(t) {
		for at := range len(s) {
			for _, b := range []string{"", "0", "1", "2", "3", "9", ",", "-", "a", "b", " ", "\x00", "\xff"} {
				for _, cut := range []int{0, 1} {
					changed := s[:at] + b + s[at+cut:]
					p := Parse(changed, r, own)
					met[p != nil]++
					if p != nil && p.Text() != changed {
						t.Fatalf("%q: %q", changed, p.Text())
					}
				}
			}
		}
	}
	if met[true] < 100 || met[false] < 1000 {
		t.Error(met)
	}
}

func TestOfNil(t *testing.T) {
	var p *Part
	for kind := -1; kind <= 12; kind++ {
		for _, c := range []api.Command{{Kind: kind}, {Kind: kind, Key: "k", Text: single}, {Kind: kind, Who: 1, N: 1, Task: 1}} {
			for _, now := range []int{-1, 0, 5} {
				if answer, release := p.Do(now, c); answer != wrong(api.ErrNil) || release != nil {
					t.Error(kind, answer, release)
				}
			}
		}
	}
	for _, n := range []int{-1, 0, 1, 99} {
		if p.Let(0, n, n) || p.Open(n, n) || p.Goal(n, n) != -1 || p.Status(n) != "" {
			t.Error(n, p.Goal(n, n), p.Status(n))
		}
	}
	if p.Runs() != 0 || p.Copy() != nil || p.Text() != "" {
		t.Error(p.Runs(), p.Text())
	}
}

// A Part that New didn't make is of no partition: no call panics.
func TestOfZero(t *testing.T) {
	p := &Part{}
	for kind := -1; kind <= 12; kind++ {
		for _, key := range []string{"", "k"} {
			for _, text := range []string{"", single, easy} {
				if answer, release := p.Do(5, api.Command{Kind: kind, Key: key, Text: text}); answer.Err == api.OK || release != nil {
					t.Error(kind, answer, release)
				}
			}
		}
	}
	c := p.Copy()
	if c.Let(0, 0, 0) || c.Open(0, 0) || c.Goal(0, 0) != -1 || c.Status(0) != "0," || c.Runs() != 0 || c.Text() != "0,0," {
		t.Error(c.Text(), c.Status(0))
	}
}
