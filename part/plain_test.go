package part

import (
	"errors"
	"fmt"
	"math/rand"
	"regexp"
	"slices"
	"strings"
	"testing"

	"lockage/api"
	"lockage/check"
	"lockage/codec"
	"lockage/lexer"
	"lockage/manifest"
	"lockage/roster"
	"lockage/run"
)

// The plain way: a partition is all that was done in it, and when; whatever is asked is worked out from that, from the beginning. A command gathers all that speaks against it, and tells the first.

// kindLet is the kind by which a Let is noted: N and Task tell the gate.
const kindLet = 1000

// done is a command that was done, and when.
type done struct {
	now int
	c   api.Command
}

type plain struct {
	roster *roster.Roster
	labels []api.Label
	people []api.Person
	part   int
	many   bool // whether there are to be many runs
	list   []done
}

// place is one of a run.
type place struct{ id, task int }

// state is what has come of all that was done.
type state struct {
	of     *plain
	leases int
	takers map[int]int // by leases
	keys   []string
	pipes  []api.Pipeline
	runs   []*run.Run
	outs   map[place]string
	yes    map[place][]int
	no     map[place]bool
}

// state works it out.
func (p *plain) state() *state {
	s := &state{of: p, takers: map[int]int{}, outs: map[place]string{}, yes: map[place][]int{}, no: map[place]bool{}}
	for _, d := range p.list {
		s.settle(d.now)
		s.change(d.now, d.c)
	}
	return s
}

func (s *state) settle(now int) {
	for _, r := range s.runs {
		r.Settle(now)
	}
}

// reason is something that may speak against a command.
type reason struct {
	is     bool
	answer api.Answer
}

func says(is bool, e api.Errno) reason { return reason{is, api.Answer{Err: e}} }

var plainName = regexp.MustCompile(`^[a-z]{1,8}$`)

// against is all that speaks against a command, of a state that is settled.
func (s *state) against(now int, c api.Command) []reason {
	switch c.Kind {
	case api.CSubmit:
		return s.againstSubmit(c)
	case api.CPoll:
		return []reason{says(len(s.bests(now)) == 0, api.ErrNone)}
	case api.CComplete, api.CFail, api.CBeat:
		return []reason{says(len(s.found(now, c)) == 0, api.ErrLease), says(c.Kind == api.CComplete && len(c.Text) > 32, api.ErrArg)}
	case api.CApprove, api.CDeny, kindLet:
		return s.againstVote(c)
	case api.CCancel:
		is := c.N >= 0 && c.N < len(s.runs)
		return []reason{says(!is, api.ErrNone), says(is && s.runs[max(0, min(c.N, len(s.runs)-1))].Status() != 0, api.ErrState)}
	}
	return []reason{says(true, api.ErrArg)}
}

func (s *state) againstSubmit(c api.Command) []reason {
	list := []reason{says(!plainName.MatchString(c.Key), api.ErrArg)}
	for id, key := range s.keys {
		list = append(list, reason{key == c.Key, api.Answer{Err: api.ErrOnce, N: id}})
	}
	list = append(list, says(len(s.keys) > 15, api.ErrFull))
	pipe, err := manifest.Parse(c.Text)
	if err == nil {
		err = check.Check(pipe, s.of.roster, s.of.part)
	}
	for e := api.ErrArg; e <= api.ErrWord; e++ {
		list = append(list, reason{errors.Is(err, e), api.Answer{Err: e, N: lexer.At(err)}})
	}
	return list
}

func (s *state) againstVote(c api.Command) []reason {
	if c.N < 0 || c.N >= len(s.runs) {
		return []reason{says(true, api.ErrNone)}
	}
	if !s.gate(c.N, c.Task) {
		return []reason{says(true, api.ErrRange)}
	}
	list := []reason{says(!s.open(c.N, c.Task), api.ErrState)}
	if c.Kind == kindLet {
		return list
	}
	list = append(list, says(!s.of.may(c.Who, s.pipes[c.N].Tasks[c.Task].To), api.ErrLabel))
	return append(list, says(c.Kind == api.CApprove && slices.Contains(s.yes[place{c.N, c.Task}], c.Who), api.ErrOnce))
}

// may: is what is taken off on the way one's to take off?
func (p *plain) may(who int, to api.Label) bool {
	if who < 0 || who >= len(p.people) {
		return false
	}
	from, auth := p.labels[p.people[who].Part], p.people[who].Auth
	return (from.Level <= to.Level || from.Level <= auth.Level) && from.Set&^to.Set&^auth.Set == 0
}

// gate: is there that gate?
func (s *state) gate(id, task int) bool {
	return id >= 0 && id < len(s.pipes) && task >= 0 && task < len(s.pipes[id].Tasks) && s.pipes[id].Tasks[task].Need > 0
}

func (s *state) open(id, task int) bool {
	return s.gate(id, task) && s.runs[id].Status() == 0 && s.runs[id].State(task) == 1
}

func (s *state) goal(id, task int) int {
	if !s.gate(id, task) {
		return -1
	}
	return slices.Index(s.of.labels, s.pipes[id].Tasks[task].To)
}

// bests are the Bests of all runs, the best one first.
func (s *state) bests(now int) []place {
	var list []place
	sinces := map[int]int{}
	for id, r := range s.runs {
		if task, since, ok := r.Best(now); ok {
			list, sinces[id] = append(list, place{id, task}), since
		}
	}
	slices.SortStableFunc(list, func(a, b place) int { return sinces[a.id] - sinces[b.id] })
	return list
}

// found are the tasks that somebody has by a lease.
func (s *state) found(now int, c api.Command) []place {
	var list []place
	for id, r := range s.runs {
		if task, ok := r.Find(now, c.Who, c.N); ok {
			list = append(list, place{id, task})
		}
	}
	return list
}

// change does a command against which nothing speaks, to a state that is settled.
func (s *state) change(now int, c api.Command) (api.Answer, *api.Release) {
	switch c.Kind {
	case api.CSubmit:
		pipe, _ := manifest.Parse(c.Text)
		s.keys, s.pipes, s.runs = append(s.keys, c.Key), append(s.pipes, pipe), append(s.runs, run.New(pipe, now))
		return api.Answer{N: len(s.keys) - 1}, nil
	case api.CPoll:
		at := s.bests(now)[0]
		s.leases++
		s.takers[s.leases] = c.Who
		s.runs[at.id].Take(at.task, now, c.Who, s.leases)
		input := s.input(at)
		return api.Answer{N: s.leases, Text: fmt.Sprintf("%d,%d,%d,%s", at.id, at.task, len(input), input)}, nil
	case api.CComplete:
		at := s.found(now, c)[0]
		s.runs[at.id].Complete(at.task, now, c.Text)
		s.outs[at] = c.Text
	case api.CFail:
		at := s.found(now, c)[0]
		s.runs[at.id].Miss(at.task, now)
	case api.CBeat:
		at := s.found(now, c)[0]
		s.runs[at.id].Beat(at.task, now)
	case api.CCancel:
		s.runs[c.N].Cancel()
	case kindLet:
		s.let(now, place{c.N, c.Task})
	default:
		return s.vote(now, c)
	}
	return api.Answer{}, nil
}

// input is what a task is given.
func (s *state) input(at place) string {
	input := ""
	for _, after := range s.pipes[at.id].Tasks[at.task].After {
		out := s.outs[place{at.id, after}]
		input += fmt.Sprintf("%d,%s", len(out), out)
	}
	return input
}

func (s *state) let(now int, at place) string {
	s.outs[at] = s.outs[place{at.id, s.pipes[at.id].Tasks[at.task].After[0]}]
	s.runs[at.id].Let(at.task, now)
	return s.outs[at]
}

func (s *state) vote(now int, c api.Command) (api.Answer, *api.Release) {
	at := place{c.N, c.Task}
	s.runs[c.N].Vote(c.Task, c.Who, c.Kind == api.CApprove)
	if c.Kind == api.CDeny {
		return api.Answer{}, nil
	}
	s.yes[at] = append(s.yes[at], c.Who)
	if len(s.yes[at]) < s.pipes[c.N].Tasks[c.Task].Need {
		return api.Answer{}, nil
	}
	return api.Answer{N: 1}, &api.Release{Tick: now, From: s.of.part, Run: c.N, Task: c.Task, Text: s.let(now, at)}
}

// do is what a command is answered, which is noted if it is done.
func (p *plain) do(now int, c api.Command) (api.Answer, *api.Release) {
	s := p.state()
	s.settle(now)
	for _, r := range s.against(now, c) {
		if r.is {
			return r.answer, nil
		}
	}
	p.list = append(p.list, done{now, c})
	return s.change(now, c)
}

func (s *state) text() string {
	var b strings.Builder
	fmt.Fprintf(&b, "%d,%d,", s.leases, len(s.keys))
	for id, key := range s.keys {
		var w codec.Writer
		s.runs[id].Write(&w)
		fmt.Fprintf(&b, "%d,%s%s", len(key), key, w.String())
	}
	return b.String()
}

// status settles it.
func (s *state) status(now int) string {
	s.settle(now)
	var b strings.Builder
	fmt.Fprintf(&b, "%d,", len(s.runs))
	for id, r := range s.runs {
		fmt.Fprintf(&b, "%d,%d,%s%d,%d,", id, len(s.pipes[id].Name), s.pipes[id].Name, r.Status(), len(s.pipes[id].Tasks))
		for task := range s.pipes[id].Tasks {
			fmt.Fprintf(&b, "%d,", r.State(task))
		}
	}
	return b.String()
}

// counts tells how often each kind was met.
type counts map[string]int

func (c counts) enough(t *testing.T, least int, kinds ...string) {
	t.Helper()
	for _, kind := range kinds {
		if c[kind] < least {
			t.Errorf("%s: hardly held against each other: %d", kind, c[kind])
		}
	}
}

var kindNames = []string{"other", "submit", "poll", "complete", "fail", "beat", "approve", "deny", "cancel"}

func kindName(kind int) string {
	switch {
	case kind == kindLet:
		return "let"
	case kind > 0 && kind < len(kindNames):
		return kindNames[kind]
	}
	return kindNames[0]
}

// commandKinds are those that each way of driving partitions should meet.
func commandKinds() []string {
	list := []string{"goes", "let goes", "let stays", "open", "closed", "goal", "no goal", "parsed", "other argument"}
	for kind, errs := range map[string]string{
		"submit": "ok argument once", "poll": "ok none", "complete": "ok lease argument", "fail": "ok lease", "beat": "ok lease",
		"approve": "ok none range state label once", "deny": "ok none range state label", "cancel": "ok none state",
	} {
		for e := range strings.FieldsSeq(errs) {
			list = append(list, kind+" "+e)
		}
	}
	return list
}

// asked holds all that doesn't change a partition against the plain answers.
func asked(t *testing.T, met counts, one *Part, p *plain, now int) {
	t.Helper()
	s := p.state()
	if got := one.Text(); got != s.text() {
		t.Fatalf("%q, not %q", got, s.text())
	}
	if one.Runs() != len(s.keys) {
		t.Fatalf("%q: %d runs", s.text(), one.Runs())
	}
	for id := -1; id <= len(s.keys); id++ {
		for task := -1; task <= 8; task++ {
			open, goal := one.Open(id, task), one.Goal(id, task)
			if open != s.open(id, task) || goal != s.goal(id, task) {
				t.Fatalf("%q: %d %d: %v %d", s.text(), id, task, open, goal)
			}
			met[map[bool]string{true: "open", false: "closed"}[open]]++
			met[map[bool]string{true: "goal", false: "no goal"}[goal >= 0]]++
		}
	}
	text := s.text()
	if got, want := one.Status(now), s.status(now); got != want || one.Text() != text {
		t.Fatalf("%q: Status(%d): %q, not %q", text, now, got, want)
	}
}

// driven does a command with both, and holds what they answer, and what becomes of them, against each other.
func driven(t *testing.T, met counts, one *Part, p *plain, now int, c api.Command) {
	t.Helper()
	was := one.Text()
	want, goes := p.do(now, c)
	if c.Kind == kindLet {
		if got := one.Let(now, c.N, c.Task); got != (want.Err == api.OK) {
			t.Fatalf("%q: Let(%d, %d, %d): %v", was, now, c.N, c.Task, got)
		}
		met[map[bool]string{true: "let goes", false: "let stays"}[want.Err == api.OK]]++
	} else {
		got, release := one.Do(now, c)
		if got != want || (release == nil) != (goes == nil) || release != nil && *release != *goes {
			t.Fatalf("%q: %d: %v: %v %v, not %v %v", was, now, c, got, release, want, goes)
		}
		if goes != nil {
			met["goes"]++
		}
	}
	if got, text := one.Text(), p.state().text(); got != text {
		t.Fatalf("%q: %d: %v: %q, not %q", was, now, c, got, text)
	}
	met[kindName(c.Kind)+" "+want.Err.Error()]++
}

// reread is the partition of one's text, if it can be read: not where a task is held by a number below 0, or at such a time.
func reread(t *testing.T, met counts, one *Part, p *plain) *Part {
	t.Helper()
	s := p.state()
	readable := true
	for _, r := range s.runs {
		var w codec.Writer
		r.Write(&w)
		readable = readable && run.Read(codec.NewReader(w.String())) != nil
	}
	again := Parse(s.text(), p.roster, p.part)
	if (again != nil) != readable {
		t.Fatalf("%q: %v", s.text(), again != nil)
	}
	if again == nil {
		met["not parsed"]++
		return one
	}
	met["parsed"]++
	return again
}

// someRoster is one of up to four partitions, and a partition of it, mostly one that isn't below the others.
func someRoster(t *testing.T, dice *rand.Rand) *plain {
	label := func() api.Label { return api.Label{Level: dice.Intn(4), Set: uint16(dice.Intn(4))} }
	labels := []api.Label{{Level: 1 + dice.Intn(3), Set: uint16(1 + dice.Intn(3))}}
	for range dice.Intn(4) {
		if l := label(); !slices.Contains(labels, l) {
			labels = append(labels, l)
		}
	}
	p := &plain{labels: labels}
	if dice.Intn(6) == 0 {
		p.part = dice.Intn(len(labels))
	}
	for range dice.Intn(13) {
		one := api.Person{Part: p.part, Auth: label()}
		if dice.Intn(2) == 0 {
			one.Auth = api.Label{Level: 7, Set: 65535}
		}
		if dice.Intn(6) == 0 {
			one.Part = dice.Intn(len(labels))
		}
		p.people = append(p.people, one)
	}
	p.roster = rosterOf(t, p.labels, p.people)
	return p
}

// someText is a manifest, mostly of a pipeline that is fit.
func someText(dice *rand.Rand, p *plain) string {
	size, row := 1+dice.Intn(5), dice.Intn(3) > 0
	turn := dice.Perm(size) // each comes behind such as have their turn ahead of it
	pipe := api.Pipeline{Name: string(rune('p' + dice.Intn(4)))}
	for at := range size {
		task := api.Task{Name: string(rune('a' + at)), Retry: dice.Intn(4), Time: 1 + dice.Intn(9)}
		for _, after := range dice.Perm(size) {
			behind := turn[after] < turn[at] && dice.Intn(3) == 0
			if row { // each behind the one whose turn is ahead of its own
				behind = turn[after]+1 == turn[at]
			}
			if behind || dice.Intn(150) == 0 {
				task.After = append(task.After, after)
			}
		}
		if len(task.After) == 1 && dice.Intn(3) > 0 || dice.Intn(100) == 0 {
			task.Need, task.Retry = 1+dice.Intn(3), 0
			task.To = p.labels[dice.Intn(len(p.labels))]
			for range 5 { // mostly one to which it may go
				if len(p.roster.Below(task.To)) < len(p.labels) && !slices.Contains(p.roster.Below(task.To), p.part) {
					break
				}
				task.To = p.labels[dice.Intn(len(p.labels))]
			}
			if dice.Intn(30) == 0 {
				task.To.Set ^= uint16(dice.Intn(4))
			}
		}
		pipe.Tasks = append(pipe.Tasks, task)
	}
	text, _ := manifest.Print(pipe)
	if dice.Intn(4) == 0 && text != "" {
		at := dice.Intn(len(text))
		text = text[:at] + []string{"", " ", "a", "9", "\n", "\x00", ",", "A", ",z", "0"}[dice.Intn(10)] + text[at+dice.Intn(2):]
	}
	if dice.Intn(30) == 0 {
		text += "task z after y"
	}
	return text
}

// someKey is a name, mostly.
func someKey(dice *rand.Rand) string {
	if dice.Intn(16) == 0 {
		return []string{"", "A", "abcdefghi", "a b", "a,", "\xff"}[dice.Intn(6)]
	}
	return key(dice.Intn(24))
}

// someCommand is one of the partition's people, mostly.
func someCommand(dice *rand.Rand, s *state) api.Command {
	who := dice.Intn(max(1, len(s.of.people)))
	if dice.Intn(40) == 0 {
		who = []int{-1, 12, 100, -1 << 40}[dice.Intn(4)]
	}
	kinds := []int{api.CSubmit, api.CPoll, api.CPoll, api.CComplete, api.CComplete, api.CComplete, api.CComplete, api.CFail, api.CBeat, api.CApprove, api.CApprove, api.CApprove, api.CDeny, kindLet}
	if s.of.many { // so that it gets full
		kinds = append(kinds, slices.Repeat([]int{api.CSubmit}, len(kinds))...)
	}
	if slices.ContainsFunc(s.gates(), func(at place) bool { return s.open(at.id, at.task) }) {
		kinds = append(kinds, api.CApprove, api.CApprove, api.CApprove, api.CApprove, api.CDeny)
	}
	c := api.Command{Kind: kinds[dice.Intn(len(kinds))], Who: who, N: dice.Intn(len(s.runs) + 1), Task: dice.Intn(6)}
	switch c.Kind {
	case api.CSubmit:
		c.Key, c.Text = someKey(dice), someText(dice, s.of)
	case api.CComplete, api.CFail, api.CBeat:
		// The last leases are those that somebody has, mostly.
		c.N = s.leases - dice.Intn(6)
		if taker, is := s.takers[c.N]; is && dice.Intn(4) > 0 {
			c.Who = taker
		}
		c.Text = strings.Repeat("o", []int{0, 1, 3, 32, 33}[dice.Intn(5)])
	case api.CApprove, api.CDeny, kindLet:
		s.someGate(dice, &c)
	}
	if dice.Intn(30) == 0 {
		c.Kind = []int{api.CCancel, api.CCancel, 0, -1, api.CQuery, api.CTick, api.CCrash, 12}[dice.Intn(8)]
	}
	if dice.Intn(60) == 0 {
		c.N, c.Task = dice.Intn(20)-1, dice.Intn(12)-1
	}
	return c
}

// gates are all that there are.
func (s *state) gates() []place {
	var list []place
	for id, pipe := range s.pipes {
		for task := range pipe.Tasks {
			if s.gate(id, task) {
				list = append(list, place{id, task})
			}
		}
	}
	return list
}

// someGate has a command speak of a gate that is open, or of any one, mostly.
func (s *state) someGate(dice *rand.Rand, c *api.Command) {
	gates := s.gates()
	open := slices.DeleteFunc(s.gates(), func(at place) bool { return !s.open(at.id, at.task) })
	for _, list := range [][]place{gates, open} {
		if len(list) > 0 && dice.Intn(4) > 0 {
			at := list[dice.Intn(len(list))]
			c.N, c.Task = at.id, at.task
		}
	}
	if yes := s.yes[place{c.N, c.Task}]; len(yes) > 0 && dice.Intn(4) == 0 { // once more
		c.Who = yes[0]
	}
}

// worthwhile is a command against which nothing speaks, if some tries find one.
func worthwhile(dice *rand.Rand, p *plain, now int) api.Command {
	s := p.state()
	s.settle(now)
	c := someCommand(dice, s)
	for range 12 * dice.Intn(2) {
		if !slices.ContainsFunc(s.against(now, c), func(r reason) bool { return r.is }) {
			break
		}
		c = someCommand(dice, s)
	}
	return c
}

// P14.1 to P14.3

func TestWalksAgainstPlain(t *testing.T) {
	dice := rand.New(rand.NewSource(14))
	met := counts{}
	for range 400 {
		p := someRoster(t, dice)
		p.many = dice.Intn(6) == 0
		one := New(p.roster, p.part)
		now, pace := []int{0, 0, 0, 5, 900, -20, 999990}[dice.Intn(7)], 1+dice.Intn(8)
		aside, asideText := one.Copy(), "0,0,"
		for range 70 {
			if dice.Intn(pace) == 0 {
				now++
			}
			at := now
			if dice.Intn(60) == 0 { // a clock that goes back, or far ahead, for one command
				at += dice.Intn(41) - 20
			}
			driven(t, met, one, p, at, worthwhile(dice, p, at))
			switch dice.Intn(12) {
			case 0: // It goes on as another one, and the one that it was is put aside.
				if aside.Text() != asideText {
					t.Fatalf("%q, not %q", aside.Text(), asideText)
				}
				aside, asideText = one, p.state().text()
				one = one.Copy()
			case 1:
				one = reread(t, met, one, p)
			case 2:
				asked(t, met, one, p, now+dice.Intn(9))
			}
		}
		asked(t, met, one, p, now)
		if aside.Text() != asideText {
			t.Fatalf("%q, not %q", aside.Text(), asideText)
		}
	}
	met.enough(t, 10, append(commandKinds(), "not parsed", "submit full", "submit cycle", "submit label", "submit form", "submit word", "submit name", "submit number", "submit none", "submit state")...)
}

// smallCommands are all that could make something else of a small partition.
func smallCommands() []api.Command {
	list := []api.Command{submit("k", easy), submit("l", again), submit("m", "pipe m\ntask a time 2\ntask b time 1 retry 1"), submit("k", "pip"), submit("n", "pip"), submit("n", "pipe p\ntask a after a"), {}}
	for who := range 2 {
		list = append(list, poll(who))
		for n := 1; n <= 3; n++ {
			list = append(list, complete(who, n, "x"), fail(who, n), beat(who, n))
		}
	}
	for id := range 2 {
		list = append(list, cancel(id), approve(ann, id, gateAt), approve(bob, id, gateAt), deny(ann, id, gateAt), approve(eve, id, gateAt), deny(eve, id, gateAt), approve(ann, id, 0), api.Command{Kind: kindLet, N: id, Task: gateAt})
	}
	return list
}

// smallParts are some partitions at different stages, as what was done in them.
func smallParts() [][]done {
	at := func(now int, list ...api.Command) (all []done) {
		for _, c := range list {
			all = append(all, done{now, c})
		}
		return all
	}
	return [][]done{
		nil,
		at(0, submit("k", gated)),
		at(0, submit("k", gated), poll(ann), complete(ann, 1, "x")),
		at(0, submit("k", gated), poll(ann), complete(ann, 1, "x"), approve(bob, 0, gateAt), submit("l", again), poll(bob)),
		at(0, submit("l", again), submit("k", easy), poll(ann), poll(ann), complete(ann, 2, "y")),
		slices.Concat(at(0, submit("l", "pipe p\ntask a time 3 retry 1\ntask b time 2"), poll(ann)), at(1, submit("k", easy), poll(bob))),
	}
}

// All that two commands at small times can make of small partitions.
func TestSmallPartsAgainstPlain(t *testing.T) {
	met := counts{}
	r := rosterOf(t, labels, people)
	for _, list := range smallParts() {
		begin := &plain{roster: r, labels: labels, people: people, part: own}
		for _, d := range list {
			if answer, _ := begin.do(d.now, d.c); answer.Err != api.OK {
				t.Fatal(d, answer)
			}
		}
		first := New(r, own)
		for _, d := range list {
			first.Do(d.now, d.c)
		}
		for _, c := range smallCommands() {
			for now := 1; now <= 6; now++ {
				p, one := *begin, first.Copy()
				p.list = slices.Clone(begin.list)
				driven(t, met, one, &p, now, c)
				asked(t, met, one, &p, now)
				for _, also := range smallCommands() {
					for later := now; later <= now+2; later += 2 {
						next, two := p, one.Copy()
						next.list = slices.Clone(p.list)
						driven(t, met, two, &next, later, also)
					}
				}
				one = reread(t, met, one, &p)
			}
		}
		if first.Text() != begin.state().text() {
			t.Errorf("%q, not %q", first.Text(), begin.state().text())
		}
	}
	met.enough(t, 5, slices.DeleteFunc(commandKinds(), func(kind string) bool {
		return slices.Contains([]string{"submit argument", "complete argument"}, kind)
	})...)
}
