package run

import (
	"fmt"
	"math/rand"
	"regexp"
	"slices"
	"strconv"
	"strings"
	"testing"

	"lockage/api"
	"lockage/codec"
	"lockage/manifest"
)

// The plain ways: a run is rows of numbers; a call gathers all that speaks against it, and tells the first; a text is put together, and taken apart, by patterns.

type row struct {
	state, since, missed, worker, lease, until int
	out                                        string
	yes                                        [12]bool
	no                                         bool
}

type plain struct {
	pipe      api.Pipeline
	rows      []row
	cancelled bool
}

func (p *plain) copy() *plain {
	return &plain{p.pipe, slices.Clone(p.rows), p.cancelled}
}

func (p *plain) gate(place int) bool { return p.pipe.Tasks[place].Need > 0 }

// plainFit: may a pipeline be run?
func plainFit(p api.Pipeline) bool {
	if !manifest.Right(p) {
		return false
	}
	for place, task := range p.Tasks {
		if task.Need > 0 && len(task.After) != 1 {
			return false
		}
		// Does it come back by as many steps as there are tasks, or fewer?
		at := map[int]int{place: 1}
		for range p.Tasks {
			next := map[int]int{}
			for from := range at {
				for _, to := range p.Tasks[from].After {
					next[to] = 1
				}
			}
			if next[place] > 0 {
				return false
			}
			at = next
		}
	}
	return true
}

func plainNew(p api.Pipeline, now int) *plain {
	if !plainFit(p) {
		return nil
	}
	r := &plain{pipe: p, rows: make([]row, len(p.Tasks))}
	r.advance(now)
	return r
}

func (p *plain) advance(now int) {
	for place, task := range p.pipe.Tasks {
		missing := 0
		for _, after := range task.After {
			if p.rows[after].state != 3 {
				missing++
			}
		}
		if missing == 0 && p.rows[place].state == 0 {
			p.rows[place].state, p.rows[place].since = 1, now
		}
	}
}

func (p *plain) status() int {
	var count [5]int
	for _, r := range p.rows {
		count[r.state]++
	}
	for _, is := range []struct {
		so     bool
		status int
	}{{p.cancelled, 3}, {count[4] > 0, 2}, {count[3] == len(p.rows), 1}} {
		if is.so {
			return is.status
		}
	}
	return 0
}

// missedAt is a row that was missed at a time.
func (r row) missedAt(at, retry int) row {
	r.missed++
	r.worker, r.lease, r.until = 0, 0, 0
	r.state, r.since = 1, at+r.missed
	if r.missed > retry {
		r.state, r.since = 4, 0
	}
	return r
}

func (p *plain) settle(now int) {
	runs := p.status() == 0
	for place, task := range p.pipe.Tasks {
		r := p.rows[place]
		switch {
		case runs && !p.gate(place) && r.state == 2 && r.until <= now:
			p.rows[place] = r.missedAt(r.until, task.Retry)
		case runs && p.gate(place) && r.state == 1 && r.since+task.Time <= now:
			p.rows[place].state, p.rows[place].since = 4, 0
		}
	}
}

func (p *plain) best(now int) (int, int, bool) {
	type found struct{ since, place int }
	var all []found
	runs := p.status() == 0
	for place, r := range p.rows {
		if runs && !p.gate(place) && r.state == 1 && r.since <= now {
			all = append(all, found{r.since, place})
		}
	}
	slices.SortFunc(all, func(a, b found) int { return (a.since-b.since)*100 + a.place - b.place })
	for _, one := range all {
		return one.place, one.since, true
	}
	return -1, 0, false
}

func (p *plain) find(now, worker, lease int) (int, bool) {
	runs := p.status() == 0
	for place, r := range p.rows {
		if runs && !p.gate(place) && r.state == 2 && r.worker == worker && r.lease == lease && now < r.until {
			return place, true
		}
	}
	return -1, false
}

// fault is something that may speak against a call.
type fault struct {
	is bool
	e  api.Errno
}

// first is the first of those that do.
func first(list []fault) api.Errno {
	for _, f := range list {
		if f.is {
			return f.e
		}
	}
	return 0
}

// call is one of a run, and what it is given.
type call struct {
	name      string
	place, at int
	who, n    int
	yes       bool
	out       string
}

// told is all that calls answer.
type told struct {
	place, since int
	ok           bool
	e            api.Errno
	out          string
}

// against is all that may speak against a call.
func (p *plain) against(c call) []fault {
	there := c.place >= 0 && c.place < len(p.rows)
	gates := c.name == "Vote" || c.name == "Let"
	list := []fault{{!there || p.gate(c.place) != gates, api.ErrRange}, {p.status() != 0, api.ErrState}}
	if !there {
		return list
	}
	r := p.rows[c.place]
	switch c.name {
	case "Take":
		return append(list, fault{r.state != 1, api.ErrState}, fault{r.since > c.at, api.ErrState})
	case "Complete":
		return append(list, fault{r.state != 2, api.ErrState}, fault{len(c.out) > 32, api.ErrArg})
	case "Miss", "Beat":
		return append(list, fault{r.state != 2, api.ErrState})
	case "Vote":
		return append(list, fault{r.state != 1, api.ErrState}, fault{c.yes && c.who >= 0 && c.who < 12 && r.yes[max(0, min(c.who, 11))], api.ErrOnce})
	}
	return append(list, fault{r.state != 1, api.ErrState})
}

func (p *plain) do(c call) told {
	switch c.name {
	case "Settle":
		p.settle(c.at)
		return told{}
	case "Cancel":
		e := first([]fault{{p.status() != 0, api.ErrState}})
		p.cancelled = p.cancelled || e == 0
		return told{e: e}
	}
	if e := first(p.against(c)); e != 0 {
		return told{e: e}
	}
	return p.change(c)
}

// change does a call against which nothing speaks.
func (p *plain) change(c call) (answer told) {
	task, r := p.pipe.Tasks[c.place], p.rows[c.place]
	switch c.name {
	case "Take":
		r = row{state: 2, missed: r.missed, worker: c.who, lease: c.n, until: c.at + task.Time, out: r.out, yes: r.yes, no: r.no}
	case "Complete":
		r = row{state: 3, missed: r.missed, out: c.out, yes: r.yes, no: r.no}
	case "Let":
		r = row{state: 3, missed: r.missed, out: p.rows[task.After[0]].out}
		answer.out = r.out
	case "Miss":
		r = r.missedAt(c.at, task.Retry)
	case "Beat":
		r.until = c.at + task.Time
	case "Vote":
		if !c.yes {
			r.state, r.since, r.no = 4, 0, true
			break
		}
		votes := 0
		for one := range r.yes {
			r.yes[one] = r.yes[one] || one == c.who
			if r.yes[one] {
				votes++
			}
		}
		answer.ok = votes >= task.Need && !r.no
	}
	p.rows[c.place] = r
	if c.name == "Complete" || c.name == "Let" {
		p.advance(c.at)
	}
	return answer
}

// do is what the run answers to the same call.
func (r *Run) do(c call) (answer told) {
	switch c.name {
	case "Settle":
		r.Settle(c.at)
	case "Cancel":
		answer.e = r.Cancel()
	case "Take":
		answer.e = r.Take(c.place, c.at, c.who, c.n)
	case "Complete":
		answer.e = r.Complete(c.place, c.at, c.out)
	case "Miss":
		answer.e = r.Miss(c.place, c.at)
	case "Beat":
		answer.e = r.Beat(c.place, c.at)
	case "Vote":
		answer.ok, answer.e = r.Vote(c.place, c.who, c.yes)
	case "Let":
		answer.out, answer.e = r.Let(c.place, c.at)
	}
	return answer
}

// text is all of it.
func (p *plain) text() string {
	var b strings.Builder
	numbers := func(list ...int) {
		for _, n := range list {
			b.WriteString(strconv.Itoa(n) + ",")
		}
	}
	text := func(s string) {
		numbers(len(s))
		b.WriteString(s)
	}
	text(p.pipe.Name)
	numbers(len(p.pipe.Tasks))
	for _, t := range p.pipe.Tasks {
		text(t.Name)
		numbers(slices.Concat([]int{len(t.After)}, t.After, []int{t.Retry, t.Time, t.Need, t.To.Level, int(t.To.Set)})...)
	}
	for _, r := range p.rows {
		numbers(r.state, r.since, r.missed, r.worker, r.lease, r.until)
		text(r.out)
		votes, yes := 0, ""
		for who, is := range r.yes {
			if is {
				votes, yes = votes+1, yes+strconv.Itoa(who)+","
			}
		}
		numbers(votes)
		b.WriteString(yes + bit(r.no))
	}
	return b.String() + bit(p.cancelled)
}

func bit(is bool) string {
	if is {
		return "1,"
	}
	return "0,"
}

// taker takes texts apart.
type taker struct {
	left  string
	wrong bool
}

var number = regexp.MustCompile(`^(0|-?[1-9][0-9]{0,9}),`)

func (k *taker) number(lo, hi int) int {
	digits := number.FindString(k.left)
	n, _ := strconv.Atoi(strings.TrimSuffix(digits, ","))
	k.wrong = k.wrong || digits == "" || n < lo || n > hi
	if k.wrong {
		return 0
	}
	k.left = strings.TrimPrefix(k.left, digits)
	return n
}

func (k *taker) text(most int) string {
	size := k.number(0, most)
	k.wrong = k.wrong || size > len(k.left)
	if k.wrong {
		return ""
	}
	s := k.left[:size]
	k.left = k.left[size:]
	return s
}

// plainRead is the run at a text's front, and what stands behind it; nil: there is none.
func plainRead(s string) (*plain, string) {
	k := taker{left: s}
	p := &plain{pipe: api.Pipeline{Name: k.text(1000)}}
	size := k.number(0, 8)
	for range size {
		t := api.Task{Name: k.text(1000)}
		for range k.number(0, 8) {
			t.After = append(t.After, k.number(-1000, 1000))
		}
		t.Retry, t.Time, t.Need = k.number(0, 1000), k.number(0, 1000), k.number(0, 1000)
		t.To = api.Label{Level: k.number(0, 7), Set: uint16(k.number(0, 65535))}
		p.pipe.Tasks = append(p.pipe.Tasks, t)
	}
	for range size {
		p.rows = append(p.rows, k.row())
	}
	p.cancelled = k.number(0, 1) == 1
	if k.wrong || !plainFit(p.pipe) {
		return nil, ""
	}
	return p, k.left
}

// row: the one that stands there.
func (k *taker) row() row {
	most := func(is bool, n int) int {
		if is {
			return n
		}
		return 0
	}
	var r row
	r.state = k.number(0, 4)
	r.since = k.number(0, most(r.state == 1, 1000000))
	r.missed = k.number(0, 6)
	r.worker = k.number(0, most(r.state == 2, 1000000))
	r.lease = k.number(0, most(r.state == 2, 1000000))
	r.until = k.number(0, most(r.state == 2, 1000000))
	r.out = k.text(32)
	last := -1
	for range k.number(0, 12) {
		last = k.number(last+1, 11)
		r.yes[last] = true
	}
	r.no = k.number(0, 1) == 1
	return r
}

// counts tells how often each kind was met.
type counts map[string]int

func (c counts) enough(t *testing.T, least int, kinds ...string) {
	t.Helper()
	for _, kind := range kinds {
		if c[kind] < least {
			t.Errorf("%s: hardly held against each other: %d", kind, c[kind])
		}
	}
}

// kinds are those that each way of driving runs should meet.
func kinds() []string {
	return []string{
		"status 0", "status 1", "status 2", "status 3", "best true", "best false", "find true", "find false", "may go", "read",
		"Settle changes", "Settle leaves it", "Take changes", "Take range", "Take state", "Complete changes", "Complete range", "Complete state", "Complete argument",
		"Miss changes", "Miss range", "Miss state", "Beat changes", "Beat range", "Beat state", "Vote changes", "Vote range", "Vote state", "Vote once",
		"Let changes", "Let range", "Let state", "Cancel changes", "Cancel state",
	}
}

// asked holds all that doesn't change a run against the plain answers.
func asked(t *testing.T, met counts, r *Run, p *plain, now int) {
	t.Helper()
	if got, want := textOf(r), p.text(); got != want {
		t.Fatalf("%q, not %q", got, want)
	}
	if got := r.Status(); got != p.status() {
		t.Fatalf("%q: status %d", p.text(), got)
	}
	met[fmt.Sprint("status ", p.status())]++
	place, since, ok := r.Best(now)
	if wantPlace, wantSince, want := p.best(now); place != wantPlace || since != wantSince || ok != want {
		t.Fatalf("%q: Best(%d): %d %d %v", p.text(), now, place, since, ok)
	}
	met[fmt.Sprint("best ", ok)]++
	for worker := range 3 {
		for lease := range 4 {
			place, ok := r.Find(now, worker, lease)
			if wantPlace, want := p.find(now, worker, lease); place != wantPlace || ok != want {
				t.Fatalf("%q: Find(%d, %d, %d): %d %v", p.text(), now, worker, lease, place, ok)
			}
			met[fmt.Sprint("find ", ok)]++
		}
	}
	for place := -1; place <= len(p.rows); place++ {
		state, input := -1, ""
		if place >= 0 && place < len(p.rows) {
			state = p.rows[place].state
			for _, after := range p.pipe.Tasks[place].After {
				input += fmt.Sprintf("%d,%s", len(p.rows[after].out), p.rows[after].out)
			}
		}
		if r.State(place) != state || r.Input(place) != input {
			t.Fatalf("%q: %d: %d %q", p.text(), place, r.State(place), r.Input(place))
		}
	}
	if !manifest.Same(r.Pipe(), p.pipe) {
		t.Fatalf("%q: %v", p.text(), r.Pipe())
	}
}

// driven does a call with both, and holds what they answer and what becomes of them against each other.
func driven(t *testing.T, met counts, r *Run, p *plain, c call) {
	t.Helper()
	was := p.text()
	want := p.do(c)
	if got := r.do(c); got != want {
		t.Fatalf("%q: %v: %v, not %v", was, c, got, want)
	}
	if got := textOf(r); got != p.text() {
		t.Fatalf("%q: %v: %q, not %q", was, c, got, p.text())
	}
	if want.e != api.OK && p.text() != was {
		t.Fatalf("%q: %v: the plain way changed", was, c)
	}
	switch {
	case p.text() != was:
		met[c.name+" changes"]++
	case want.e != api.OK:
		met[c.name+" "+want.e.Error()]++
	default:
		met[c.name+" leaves it"]++
	}
	if want.ok {
		met["may go"]++
	}
}

// read is the run of a text, held against the plain one.
func read(t *testing.T, met counts, s string) (*Run, *plain) {
	t.Helper()
	p, left := plainRead(s)
	reader := codec.NewReader(s)
	r := Read(reader)
	if (r != nil) != (p != nil) || reader.Ok() != (p != nil) || reader.Done() != (p != nil && left == "") {
		t.Fatalf("Read of %q: %v %v", s, r != nil, p != nil)
	}
	if p == nil {
		met["not read"]++
		return nil, nil
	}
	met["read"]++
	if textOf(r) != p.text() || textOf(r)+left != s {
		t.Fatalf("Read of %q: %q, not %q", s, textOf(r), p.text())
	}
	return r, p
}

// letters are names of one letter, in any order.
func letters(dice *rand.Rand) []string {
	list := strings.Split("abcdefgh", "")
	dice.Shuffle(len(list), func(i, j int) { list[i], list[j] = list[j], list[i] })
	return list
}

// somePipe is a pipeline that may be run, mostly.
func somePipe(dice *rand.Rand) api.Pipeline {
	size, names := 1+dice.Intn(8), letters(dice)
	turn := dice.Perm(size) // each comes behind such as have their turn ahead of it
	p := api.Pipeline{Name: names[0]}
	for place := range size {
		t := api.Task{Name: names[place], Retry: dice.Intn(3) * dice.Intn(2), Time: 1 + dice.Intn(6)}
		for _, after := range dice.Perm(size) {
			if turn[after] < turn[place] && dice.Intn(3) == 0 || dice.Intn(400) == 0 {
				t.After = append(t.After, after)
			}
		}
		if len(t.After) == 1 && dice.Intn(4) > 0 || dice.Intn(400) == 0 {
			t.Need, t.Retry = 1+dice.Intn(3), 0
			t.To = api.Label{Level: dice.Intn(8), Set: uint16(dice.Intn(1 << 16))}
		}
		p.Tasks = append(p.Tasks, t)
	}
	return p
}

// someOut is an output, mostly.
func someOut(dice *rand.Rand) string {
	size := []int{0, 1, 2, 5, 31, 32, 32, 33}[dice.Intn(8)]
	b := make([]byte, size)
	for i := range b {
		b[i] = byte(dice.Intn(256))
	}
	return string(b)
}

// someCall is a call at a time, or near it.
func someCall(dice *rand.Rand, p *plain, now int) call {
	names := []string{"Settle", "Take", "Take", "Take", "Complete", "Complete", "Miss", "Beat", "Vote", "Vote", "Vote", "Vote", "Let"}
	c := call{name: names[dice.Intn(len(names))], place: dice.Intn(len(p.rows)), at: now, who: dice.Intn(3), n: dice.Intn(4), yes: dice.Intn(12) > 0, out: someOut(dice)}
	if c.name == "Vote" {
		c.who = []int{0, 1, 2, 3, -1, 12, dice.Intn(14) - 1}[dice.Intn(7)]
	}
	// Mostly where nothing speaks against it, if there is such a place.
	for range 10 * dice.Intn(2) {
		if first(p.against(c)) == 0 {
			break
		}
		c.place = dice.Intn(len(p.rows))
	}
	for who, is := range p.rows[c.place].yes {
		if is && dice.Intn(4) == 0 { // once more
			c.who = who
		}
	}
	switch dice.Intn(100) {
	case 0, 3:
		c.place = []int{-1, len(p.rows), 8, 1 << 40, -1 << 40}[dice.Intn(5)]
	case 1:
		c.at += dice.Intn(21) - 10
	case 2:
		c.name = "Cancel"
	}
	return c
}

// P13.1 to P13.4

func TestWalksAgainstPlain(t *testing.T) {
	dice := rand.New(rand.NewSource(13))
	met := counts{}
	for walk := range 1600 {
		now := []int{0, 0, 0, 5, 900, -20, 999990}[dice.Intn(7)]
		pipe := somePipe(dice)
		r, p := New(pipe, now), plainNew(pipe, now)
		if (r != nil) != (p != nil) {
			t.Fatal(walk, pipe)
		}
		if p == nil {
			met["no run"]++
			continue
		}
		aside, asideText := r.Copy(), p.text()
		for range 60 {
			now += dice.Intn(3) * dice.Intn(2)
			asked(t, met, r, p, now)
			driven(t, met, r, p, someCall(dice, p, now))
			switch dice.Intn(20) {
			case 0: // It goes on as another one, and the one that it was is put aside.
				if textOf(aside) != asideText {
					t.Fatalf("%q, not %q", textOf(aside), asideText)
				}
				aside, asideText = r, p.text()
				r = r.Copy()
			case 1:
				if again, plainAgain := read(t, met, p.text()); again != nil {
					r, p = again, plainAgain
				}
			}
		}
		asked(t, met, r, p, now)
		if textOf(aside) != asideText {
			t.Fatalf("%q, not %q", textOf(aside), asideText)
		}
	}
	met.enough(t, 30, append(kinds(), "no run", "not read", "Vote leaves it")...)
}

// someRow is any that may be.
func someRow(dice *rand.Rand) row {
	r := row{state: dice.Intn(5), missed: dice.Intn(3), no: dice.Intn(8) == 0}
	if dice.Intn(2) == 0 {
		r.out = someOut(dice)
		r.out = r.out[:min(32, len(r.out))]
	}
	switch r.state {
	case 1:
		r.since = dice.Intn(8)
	case 2:
		r.worker, r.lease, r.until = dice.Intn(3), dice.Intn(4), dice.Intn(12)
	}
	if dice.Intn(3) == 0 {
		for range dice.Intn(5) {
			r.yes[dice.Intn(12)] = true
		}
	}
	return r
}

// Runs of tries that New and the other calls would hardly bring about.
func TestAnyRowsAgainstPlain(t *testing.T) {
	dice := rand.New(rand.NewSource(31))
	met := counts{}
	for range 3000 {
		made := &plain{pipe: somePipe(dice), cancelled: dice.Intn(12) == 0}
		for range made.pipe.Tasks {
			made.rows = append(made.rows, someRow(dice))
		}
		// Most that are of any rows have failed.
		for i := range made.rows {
			if made.rows[i].state == 4 && dice.Intn(10) > 0 {
				made.rows[i].state = 3
			}
		}
		r, p := read(t, met, made.text())
		if p == nil {
			continue
		}
		now := dice.Intn(12)
		for range 12 {
			asked(t, met, r, p, now)
			driven(t, met, r, p, someCall(dice, p, now))
		}
	}
	met.enough(t, 30, append(kinds(), "not read", "Vote leaves it")...)
}

// smallPipes are some in which tasks and gates stand ahead of and behind each other.
func smallPipes() []api.Pipeline {
	return []api.Pipeline{
		pipe(again("a", 2, 1), gateOf("g", 3, 1, 0), task("c", 2, 1)),
		pipe(gateOf("g", 3, 2, 1), task("a", 2), gateOf("h", 2, 1, 0)),
		pipe(task("a", 2, 1, 2), again("b", 3, 2), again("c", 2, 1)),
		pipe(again("a", 1, 1), gateOf("g", 2, 1, 0), gateOf("h", 3, 2, 0)),
	}
}

// smallRows are those of each state with small numbers.
func smallRows() []row {
	return []row{
		{}, {state: 1, since: 2}, {state: 1, since: 4, missed: 1, yes: [12]bool{5: true}}, {state: 2, worker: 1, lease: 1, until: 5}, {state: 2, missed: 1, worker: 1, lease: 2, until: 4, out: "o"},
		{state: 3, out: "x"}, {state: 4, missed: 1},
	}
}

// smallCalls are all that could make something else of a small run.
func smallCalls() []call {
	list := []call{{name: "Cancel"}}
	for now := 3; now <= 5; now++ {
		list = append(list, call{name: "Settle", at: now})
	}
	for place := -1; place <= 3; place++ {
		for now := 3; now <= 5; now++ {
			list = append(list, call{name: "Take", place: place, at: now, who: 1, n: 3})
		}
		for who := 4; who <= 5; who++ {
			list = append(list, call{name: "Vote", place: place, who: who, yes: true}, call{name: "Vote", place: place, who: who})
		}
		for _, name := range []string{"Miss", "Beat", "Let"} {
			list = append(list, call{name: name, place: place, at: 4})
		}
		list = append(list, call{name: "Complete", place: place, at: 4, out: "y"}, call{name: "Complete", place: place, at: 4, out: strings.Repeat("y", 33)})
	}
	return list
}

// All calls of all small runs.
func TestSmallRunsAgainstPlain(t *testing.T) {
	met := counts{}
	rows := smallRows()
	for _, pipe := range smallPipes() {
		for all := range len(rows) * len(rows) * len(rows) * 2 {
			half := all / 2
			made := &plain{pipe: pipe, cancelled: all%2 == 1, rows: []row{rows[half%7], rows[half/7%7], rows[half/49]}}
			text := made.text()
			r, p := read(t, met, text)
			for now := 1; now <= 6; now++ {
				asked(t, met, r, p, now)
			}
			for _, c := range smallCalls() {
				driven(t, met, r.Copy(), p.copy(), c)
			}
			if textOf(r) != text {
				t.Fatalf("%q, not %q", textOf(r), text)
			}
		}
	}
	met.enough(t, 20, kinds()...)
}

// changed is a text with one of its bytes, or of its numbers, another one.
func changed(dice *rand.Rand, s string) string {
	at := dice.Intn(len(s))
	switch dice.Intn(4) {
	case 0:
		return s[:at] + s[at+1:]
	case 1:
		return s[:at] + string("0123456789,-a"[dice.Intn(13)]) + s[at:]
	case 2:
		return s[:at] + string("0123456789,-a"[dice.Intn(13)]) + s[at+1:]
	}
	numbers := regexp.MustCompile(`[0-9]+`).FindAllStringIndex(s, -1)
	place := numbers[dice.Intn(len(numbers))]
	others := []string{"0", "1", "2", "3", "4", "5", "6", "7", "8", "9", "11", "12", "13", "32", "33", "100", "101", "65535", "65536", "1000000", "1000001", "-1"}
	return s[:place[0]] + others[dice.Intn(len(others))] + s[place[1]:]
}

func TestChangedTextsAgainstPlain(t *testing.T) {
	dice := rand.New(rand.NewSource(1313))
	met := counts{}
	for range 20000 {
		made := &plain{pipe: somePipe(dice), cancelled: dice.Intn(2) == 0}
		for range made.pipe.Tasks {
			made.rows = append(made.rows, someRow(dice))
		}
		s := made.text()
		for range 1 + dice.Intn(2) {
			s = changed(dice, s)
		}
		if r, p := read(t, met, s); p != nil {
			asked(t, met, r, p, dice.Intn(12))
		}
	}
	met.enough(t, 1000, "read", "not read")
}

// Any pipelines of up to three tasks, told by what comes behind what.
func TestNewAgainstPlain(t *testing.T) {
	met := counts{}
	for size := 1; size <= 3; size++ {
		for behind := range 1 << (size * size) {
			for gates := range 1 << size {
				p := api.Pipeline{Name: "p"}
				for place := range size {
					t := api.Task{Name: string(rune('a' + place)), Time: 1, Need: gates >> place & 1}
					for after := range size {
						if behind>>(place*size+after)&1 == 1 {
							t.After = append(t.After, after)
						}
					}
					p.Tasks = append(p.Tasks, t)
				}
				r, want := New(p, 7), plainNew(p, 7)
				if (r != nil) != (want != nil) {
					t.Fatal(p, r != nil)
				}
				if r == nil {
					met["no run"]++
					continue
				}
				met["a run"]++
				asked(t, met, r, want, 7)
			}
		}
	}
	met.enough(t, 40, "a run", "no run")
}
