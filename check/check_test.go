package check

import (
	"errors"
	"math"
	"reflect"
	"slices"
	"strings"
	"testing"

	"lockage/api"
	"lockage/lexer"
	"lockage/manifest"
	"lockage/order"
	"lockage/roster"
)

// told is an answered error and its place; fits, if it is none.
func told(t *testing.T, err error) refusal {
	t.Helper()
	if err == nil {
		return fits
	}
	fault, is := err.(*api.Fault)
	if !is || fault == nil {
		t.Fatalf("no fault: %#v", err)
	}
	e, is := fault.Err.(api.Errno)
	if !is {
		t.Fatalf("it wraps %#v", fault.Err)
	}
	for code := api.OK; code <= api.ErrWord; code++ {
		if errors.Is(err, code) != (code == e) {
			t.Errorf("%v: errors.Is of %v: %v", err, code, errors.Is(err, code))
		}
	}
	var as *api.Fault
	if !errors.As(err, &as) || as != fault || lexer.At(err) != fault.At {
		t.Errorf("%v: errors.As %v, At %d", err, as, lexer.At(err))
	}
	return refusal{fault.At, e}
}

// of is the pipeline of lines.
func of(t *testing.T, lines ...string) api.Pipeline {
	t.Helper()
	p, err := manifest.Parse("pipe p\n" + strings.Join(lines, "\n"))
	if err != nil {
		t.Fatal(lines, err)
	}
	return p
}

// checks asks for an error at a place.
func checks(t *testing.T, h house, part int, p api.Pipeline, at int, e api.Errno) {
	t.Helper()
	if got, want := told(t, Check(p, h.roster(t), part)), (refusal{at, e}); got != want {
		t.Errorf("%+v in %d of %v: %v, not %v", p, part, h, got, want)
	}
	asks(t, h, p)
}

// fit asks that there is none.
func fit(t *testing.T, h house, part int, p api.Pipeline) {
	t.Helper()
	checks(t, h, part, p, fits.at, fits.e)
}

// The partitions of the house.
const (
	public = iota
	left
	right
	top
)

var (
	nothing = api.Label{}
	all     = api.Label{Level: 7, Set: 0xffff}
)

// usual is a house with a partition above two that are aside of each other, and these above the first one.
func usual() house {
	return house{
		[]api.Label{{}, {Level: 2, Set: 1}, {Level: 2, Set: 2}, {Level: 5, Set: 3}},
		[]api.Person{
			{Part: top, Auth: api.Label{Level: 5, Set: 3}},
			{Part: top, Auth: api.Label{Level: 5, Set: 1}},
			{Part: left, Auth: api.Label{Level: 2, Set: 1}},
			{Part: right, Auth: api.Label{Set: 2}},
			{Part: public, Auth: all},
			{Part: top, Auth: nothing},
			{Part: right, Auth: all},
		},
	}
}

func TestExample(t *testing.T) {
	h := house{[]api.Label{{}, {Level: 3, Set: 1}}, []api.Person{{Part: 1, Auth: api.Label{Level: 3, Set: 1}}, {Part: 1}, {Part: 0, Auth: all}}}
	checks(t, h, 1, of(t, "task a", "gate g after a to 0:0000 need 2"), 1, api.ErrState)
	fit(t, h, 1, of(t, "task a", "gate g after a to 0:0000 need 1"))
}

// P10.1 and P10.2: pipelines that may not be

// asksNothing asks that Check and Targets answer as of a pipeline that may not be, whatever else is wrong.
func asksNothing(t *testing.T, what string, p api.Pipeline) {
	t.Helper()
	if manifest.Right(p) {
		t.Fatal(what, "may be")
	}
	for _, h := range []house{{}, {labels: []api.Label{{}}}, usual()} {
		r := h.roster(t)
		for _, part := range append(noPlaces(len(h.labels)), 0, 1, 2, 3) {
			if got, want := told(t, Check(p, r, part)), (refusal{-1, api.ErrArg}); got != want {
				t.Errorf("%s: %+v in %d of %v: %v", what, p, part, h, got)
			}
		}
		if got := Targets(p, r); len(got) != 0 {
			t.Errorf("%s: %+v: Targets %v", what, p, got)
		}
	}
}

// sound is pipelines that may be: one that is fit for the partition top, one with a gate of each kind that isn't, and one with a round; each has a task at 0, and a gate at 2.
func sound(t *testing.T) []api.Pipeline {
	return []api.Pipeline{
		of(t, "task a", "task b after a retry 2", "gate g after b to 2:0002 need 2", "task c after g,a"),
		of(t, "task a", "gate h to 0:0000 need 4", "gate g after a to 5:0003 need 1", "gate i after h to 1:0000 need 4", "gate j after i to 0:0000 need 2"),
		of(t, "task a after c", "gate h to 0:0000 need 4", "gate g after a to 7:0003 need 1", "task c after g"),
	}
}

// asksChanged asks that sound pipelines that were changed are none.
func asksChanged(t *testing.T, what string, changed func(p *api.Pipeline)) {
	t.Helper()
	for _, p := range sound(t) {
		asks(t, usual(), p)
		changed(&p)
		asksNothing(t, what, p)
	}
}

func TestSoundOnes(t *testing.T) {
	list := sound(t)
	fit(t, usual(), top, list[0])
	checks(t, usual(), top, list[1], 1, api.ErrForm)
	checks(t, usual(), top, list[2], 0, api.ErrCycle)
}

func TestNoPipeline(t *testing.T) {
	asksNothing(t, "nothing", api.Pipeline{})
	asksNothing(t, "no name", api.Pipeline{Tasks: []api.Task{{Name: "a", Time: 5}}})
	asksNothing(t, "no tasks", api.Pipeline{Name: "p"})
	asksNothing(t, "no tasks", api.Pipeline{Name: "p", Tasks: []api.Task{}})
	for _, name := range []string{"", "P", "pipelines", "a b", "a,b", "p1", " p", "p\n", "é", "\xff"} {
		asksChanged(t, "the name", func(p *api.Pipeline) { p.Name = name })
		for i := range 4 {
			asksChanged(t, "a task's name", func(p *api.Pipeline) { p.Tasks[i].Name = name })
		}
	}
	for i := range 4 {
		for j := range i {
			asksChanged(t, "two of one name", func(p *api.Pipeline) { p.Tasks[i].Name = p.Tasks[j].Name })
		}
	}
	for more := 1; more < 20; more++ {
		asksChanged(t, "more than eight", func(p *api.Pipeline) {
			for len(p.Tasks) < api.MaxTasks+more {
				p.Tasks = append(p.Tasks, api.Task{Name: string([]byte{'x', byte('a' + len(p.Tasks))}), Time: 5})
			}
		})
	}
}

func TestNoAfter(t *testing.T) {
	for i := range 4 {
		for _, place := range noPlaces(5) {
			asksChanged(t, "no place", func(p *api.Pipeline) { p.Tasks[i].After = []int{place} })
			asksChanged(t, "no place behind another", func(p *api.Pipeline) { p.Tasks[i].After = []int{0, place} })
			asksChanged(t, "no place ahead of another", func(p *api.Pipeline) { p.Tasks[i].After = []int{place, 0} })
		}
		for place := range 4 {
			asksChanged(t, "twice", func(p *api.Pipeline) { p.Tasks[i].After = []int{place, place} })
		}
		asksChanged(t, "twice with another between", func(p *api.Pipeline) { p.Tasks[i].After = []int{0, 1, 0} })
	}
}

func TestNoNumbers(t *testing.T) {
	numbers := []int{math.MinInt, -1 << 32, -256, -1, 101, 256, 1 << 32, 1<<32 + 1, math.MaxInt}
	for i := range 4 {
		for _, n := range append(numbers, 0) {
			asksChanged(t, "Time", func(p *api.Pipeline) { p.Tasks[i].Time = n })
		}
		for _, n := range append(numbers, 6) {
			asksChanged(t, "Retry", func(p *api.Pipeline) { p.Tasks[i].Retry = n })
		}
		for _, n := range append(numbers, 5) {
			asksChanged(t, "Need", func(p *api.Pipeline) { p.Tasks[i].Need = n })
		}
		for _, n := range append(numbers, 8) {
			asksChanged(t, "To", func(p *api.Pipeline) { p.Tasks[i].To.Level = n })
		}
	}
	for n := 1; n <= 5; n++ {
		asksChanged(t, "a gate that is tried again", func(p *api.Pipeline) { p.Tasks[2].Retry = n })
		asksChanged(t, "a task's label", func(p *api.Pipeline) { p.Tasks[0].To.Level = n })
		asksChanged(t, "a task's compartment", func(p *api.Pipeline) { p.Tasks[0].To.Set = 1 << n })
	}
}

// P10.1: partitions, and rosters

func TestPartitions(t *testing.T) {
	for n := 1; n <= 4; n++ {
		h := house{labels: usual().labels[:n]}
		r, p, rounded, gated := h.roster(t), of(t, "task a"), of(t, "task a after a"), of(t, "task a", "gate g to 0:0000 need 1")
		for part := range n {
			fit(t, h, part, p)
			checks(t, h, part, rounded, 0, api.ErrCycle)
			checks(t, h, part, gated, 1, api.ErrForm)
		}
		for _, part := range noPlaces(n) {
			for _, p := range append(sound(t), p, rounded, gated) {
				if got, want := told(t, Check(p, r, part)), (refusal{-1, api.ErrArg}); got != want {
					t.Errorf("%d: %+v in %d: %v", n, p, part, got)
				}
			}
		}
	}
}

func TestNoRoster(t *testing.T) {
	for i, r := range []*roster.Roster{nil, {}} {
		for _, p := range append(sound(t), of(t, "task a"), of(t, "task a after a"), api.Pipeline{}) {
			for part := -2; part < 6; part++ {
				if got, want := told(t, Check(p, r, part)), (refusal{-1, api.ErrArg}); got != want {
					t.Errorf("%d: %+v in %d: %v", i, p, part, got)
				}
			}
		}
	}
}

// P10.1: rounds

func TestRounds(t *testing.T) {
	for _, c := range []struct {
		lines []string
		at    int
	}{
		{[]string{"task a after a"}, 0},
		{[]string{"task a", "task b after b"}, 1},
		{[]string{"task a", "task b after c", "task c after b"}, 1},
		{[]string{"task a after b", "task b after b"}, 1},
		{[]string{"task a after b", "task b after c", "task c after d", "task d after d"}, 3},
		{[]string{"task a", "task b", "task c", "task d", "task e", "task f", "task g", "task h after h"}, 7},
		// A gate in it, and a gate alone in it.
		{[]string{"task a after g", "gate g after a to 0:0000 need 1"}, 0},
		{[]string{"task a", "gate g after b to 0:0000 need 1", "task b after g"}, 1},
		{[]string{"gate g after g to 0:0000 need 1"}, 0},
		{[]string{"task a", "gate g after g to 0:0000 need 1"}, 1},
		// A gate beside it that is fit.
		{[]string{"task a", "gate g after a to 0:0000 need 1", "task b after b"}, 2},
		{[]string{"task b after b", "task a", "gate g after a to 0:0000 need 1"}, 0},
		// Beside it, and behind it, at a lesser place and at a greater one, a gate that is wrong, in each way.
		{[]string{"gate g to 0:0000 need 1", "task a after a"}, 1},
		{[]string{"task a after a", "gate g to 0:0000 need 1"}, 0},
		{[]string{"task a", "gate g after a to 1:0000 need 1", "task b after b"}, 2},
		{[]string{"task a", "gate g after a to 5:0003 need 1", "task b after b"}, 2},
		{[]string{"task a", "gate g after a to 0:0000 need 4", "task b after b"}, 2},
		{[]string{"task a", "gate g after a,b to 0:0000 need 4", "task b after b"}, 2},
		{[]string{"gate g to 1:0000 need 4", "gate h to 5:0003 need 4", "task a after b,c", "task c after c", "task b after a"}, 2},
		// The gate in it is wrong itself.
		{[]string{"task a", "gate g after g,a to 0:0000 need 1"}, 1},
		{[]string{"task a", "gate h to 0:0000 need 1", "task b", "gate g after g to 1:0000 need 4"}, 3},
		{[]string{"gate h after a to 7:0000 need 1", "task a after g", "gate g after a to 7:ffff need 4"}, 1},
	} {
		for part := range usual().labels {
			checks(t, usual(), part, of(t, c.lines...), c.at, api.ErrCycle)
		}
	}
}

// P10.1: a gate's After

func TestAfter(t *testing.T) {
	for _, c := range []struct {
		after string
		e     api.Errno
	}{
		{"", api.ErrForm},
		{"after a", api.OK},
		{"after b", api.OK},
		{"after h", api.OK}, // a gate
		{"after a,b", api.ErrForm},
		{"after b,a", api.ErrForm},
		{"after h,i", api.ErrForm},
		{"after a,h", api.ErrForm},
		{"after h,a", api.ErrForm},
		{"after a,b,h", api.ErrForm},
		{"after a,b,h,i,d,e,f", api.ErrForm},
	} {
		p := of(t, "task a", "task b after a", "gate h after b to 2:0001 need 1", "gate i after h to 2:0002 need 2", "gate g to 0:0000 need 1 "+c.after, "task d", "task e", "task f")
		at := 0
		if c.e != api.OK {
			at = 4
		}
		checks(t, usual(), top, p, at, c.e)
	}
}

// A gate that comes behind one that stands below it, and one that is alone.
func TestAfterAnyPlace(t *testing.T) {
	fit(t, usual(), top, of(t, "gate g after a to 0:0000 need 1", "task a"))
	fit(t, usual(), top, of(t, "gate g after h to 0:0000 need 1", "gate h after a to 2:0001 need 1", "task a"))
	checks(t, usual(), top, of(t, "gate g to 0:0000 need 1"), 0, api.ErrForm)
	checks(t, usual(), top, of(t, "gate g after h to 0:0000 need 1", "gate h to 0:0000 need 1"), 1, api.ErrForm)
}

// P10.1: a gate's To

func TestTo(t *testing.T) {
	for _, c := range []struct {
		part int
		to   string
		e    api.Errno
	}{
		// Down, and aside.
		{top, "0:0000", api.OK},
		{top, "2:0001", api.OK},
		{top, "2:0002", api.OK},
		{left, "0:0000", api.OK},
		{left, "2:0002", api.OK},
		{right, "0:0000", api.OK},
		{right, "2:0001", api.OK},
		// Its own partition's, and up.
		{public, "0:0000", api.ErrLabel},
		{left, "2:0001", api.ErrLabel},
		{right, "2:0002", api.ErrLabel},
		{top, "5:0003", api.ErrLabel},
		{public, "2:0001", api.ErrLabel},
		{public, "2:0002", api.ErrLabel},
		{public, "5:0003", api.ErrLabel},
		{left, "5:0003", api.ErrLabel},
		{right, "5:0003", api.ErrLabel},
		// No partition's: below, between, above and aside; nearly one of them.
		{top, "1:0000", api.ErrLabel},
		{top, "0:0001", api.ErrLabel},
		{top, "0:0002", api.ErrLabel},
		{top, "2:0000", api.ErrLabel},
		{top, "2:0003", api.ErrLabel},
		{top, "3:0001", api.ErrLabel},
		{top, "1:0001", api.ErrLabel},
		{top, "5:0001", api.ErrLabel},
		{top, "4:0003", api.ErrLabel},
		{top, "7:ffff", api.ErrLabel},
		{top, "6:0003", api.ErrLabel},
		{top, "5:0007", api.ErrLabel},
		{top, "0:8000", api.ErrLabel},
		{top, "2:0004", api.ErrLabel},
		{left, "2:0003", api.ErrLabel},
		{left, "1:0001", api.ErrLabel},
		{left, "2:0000", api.ErrLabel},
		{left, "2:8002", api.ErrLabel},
		{public, "1:0000", api.ErrLabel},
		{public, "0:0001", api.ErrLabel},
	} {
		at := 0
		if c.e != api.OK {
			at = 1
		}
		p := of(t, "task a", "gate g after a need 1 to "+c.to)
		checks(t, usual(), c.part, p, at, c.e)
		// Where nobody may vote, or too few: the labels are asked for ahead of that.
		empty := usual()
		empty.people = nil
		p.Tasks[1].Need = api.MaxNeed
		for _, h := range []house{empty, usual()} {
			if c.e == api.OK {
				checks(t, h, c.part, p, 1, api.ErrState)
			} else {
				checks(t, h, c.part, p, 1, api.ErrLabel)
			}
		}
	}
}

// Aside by the compartments, by the level against a compartment, and where there is one partition alone.
func TestAside(t *testing.T) {
	for _, c := range []struct {
		own, to api.Label
		e       api.Errno
	}{
		{api.Label{Level: 3}, api.Label{Level: 2, Set: 1}, api.OK},
		{api.Label{Level: 3}, api.Label{Level: 3, Set: 1}, api.ErrLabel},
		{api.Label{Level: 2, Set: 1}, api.Label{Level: 3}, api.OK},
		{api.Label{Level: 2, Set: 1}, api.Label{Level: 7, Set: 0xfffe}, api.OK},
		{api.Label{Level: 2, Set: 1}, api.Label{Level: 7, Set: 0xffff}, api.ErrLabel},
		{api.Label{Level: 2, Set: 0x8000}, api.Label{Level: 2, Set: 0x7fff}, api.OK},
		{api.Label{Level: 2, Set: 0x8000}, api.Label{Level: 2}, api.OK},
		{api.Label{Level: 2, Set: 0x8000}, api.Label{Level: 2, Set: 0x8001}, api.ErrLabel},
		{api.Label{Level: 7}, api.Label{Level: 6}, api.OK},
		{api.Label{Level: 6}, api.Label{Level: 7}, api.ErrLabel},
	} {
		for own := range 2 {
			h := house{[]api.Label{c.to, c.to}, []api.Person{{Part: own, Auth: all}}}
			h.labels[own] = c.own
			at := 0
			if c.e != api.OK {
				at = 1
			}
			checks(t, h, own, single(c.to, 1), at, c.e)
			checks(t, h, own, single(c.own, 1), 1, api.ErrLabel)
		}
		alone := house{[]api.Label{c.own}, []api.Person{{Part: 0, Auth: all}}}
		checks(t, alone, 0, single(c.to, 1), 1, api.ErrLabel)
		checks(t, alone, 0, single(c.own, 1), 1, api.ErrLabel)
	}
}

// P10.1: a gate's Need

// Of so many principals so many may; where they stand among the others doesn't count.
func TestNeed(t *testing.T) {
	own, to := api.Label{Level: 3, Set: 1}, api.Label{Level: 1}
	for n := 0; n <= 12; n++ {
		for may := range n + 1 {
			first, last := house{labels: []api.Label{to, own}}, house{labels: []api.Label{to, own}}
			for who := range n {
				auths := []api.Label{own, {Level: 3}}
				first.people = append(first.people, api.Person{Part: 1, Auth: auths[number(who >= may)]})
				last.people = append(last.people, api.Person{Part: 1, Auth: auths[number(who < n-may)]})
			}
			for need := 1; need <= 4; need++ {
				want := refusal{1, api.ErrState}
				if may >= need {
					want = fits
				}
				checks(t, first, 1, single(to, need), want.at, want.e)
				checks(t, last, 1, single(to, need), want.at, want.e)
			}
		}
	}
}

// number: 1, if it is so, else 0.
func number(is bool) int {
	if is {
		return 1
	}
	return 0
}

// The same one, of another partition, doesn't count, though it could let it go.
func TestPeopleOfOthersDontCount(t *testing.T) {
	for part := range 4 {
		h := usual()
		h.people = nil
		for who := range 12 {
			h.people = append(h.people, api.Person{Part: who % 4, Auth: all})
			if who%4 == part {
				h.people[who].Part = (part + 1) % 4
			}
		}
		for _, to := range h.labels[:3] {
			e := api.ErrState
			if plainBelow(h.labels[part], to) {
				e = api.ErrLabel
			}
			checks(t, h, part, single(to, 1), 1, e)
		}
		// One of its own, at each place.
		for who := range 12 {
			one := house{h.labels, slices.Clone(h.people)}
			one.people[who].Part = part
			if part != public {
				fit(t, one, part, single(nothing, 1))
			}
			checks(t, one, part, single(nothing, 2), 1, []api.Errno{api.ErrLabel, api.ErrState}[number(part != public)])
		}
	}
}

// Nobody votes twice.
func TestOneIsOne(t *testing.T) {
	h := house{[]api.Label{{}, {Level: 1}}, []api.Person{{Part: 1, Auth: all}, {Part: 0, Auth: all}}}
	for need := 2; need <= 4; need++ {
		checks(t, h, 1, single(nothing, need), 1, api.ErrState)
	}
	h.people = append(h.people, api.Person{Part: 1, Auth: all})
	fit(t, h, 1, single(nothing, 2))
	checks(t, h, 1, single(nothing, 3), 1, api.ErrState)
}

func TestAuth(t *testing.T) {
	for _, c := range []struct{ own, to, off api.Label }{
		{api.Label{Level: 5, Set: 3}, api.Label{Level: 2, Set: 1}, api.Label{Level: 5, Set: 2}},
		{api.Label{Level: 5, Set: 3}, api.Label{}, api.Label{Level: 5, Set: 3}},
		{api.Label{Level: 5, Set: 3}, api.Label{Level: 5, Set: 1}, api.Label{Set: 2}},
		{api.Label{Level: 5, Set: 3}, api.Label{Level: 7, Set: 0xfffc}, api.Label{Set: 3}},
		{api.Label{Level: 5, Set: 3}, api.Label{Level: 4, Set: 3}, api.Label{Level: 5}},
		{api.Label{Level: 5, Set: 3}, api.Label{Level: 0, Set: 0xffff}, api.Label{Level: 5}},
		{api.Label{Level: 1}, api.Label{}, api.Label{Level: 1}},
		{api.Label{Set: 0x8000}, api.Label{Level: 7}, api.Label{Set: 0x8000}},
		{api.Label{Level: 7, Set: 0xffff}, api.Label{}, api.Label{Level: 7, Set: 0xffff}},
		{api.Label{Level: 7, Set: 0xffff}, api.Label{Level: 6, Set: 0x7ffe}, api.Label{Level: 7, Set: 0x8001}},
	} {
		votes := func(auth api.Label, may bool) {
			t.Helper()
			h := house{[]api.Label{c.own, c.to}, []api.Person{{Part: 1, Auth: all}, {Part: 0, Auth: auth}}}
			want, voters := refusal{1, api.ErrState}, []int(nil)
			if may {
				want, voters = fits, []int{1}
			}
			checks(t, h, 0, single(c.to, 1), want.at, want.e)
			if got := Voters(h.roster(t), 0, c.to); !slices.Equal(got, voters) {
				t.Errorf("%v to %v, Auth %v: Voters %v", c.own, c.to, auth, got)
			}
		}
		votes(c.off, true)
		for level := range 8 {
			votes(api.Label{Level: level, Set: c.off.Set}, level >= c.off.Level)
			votes(api.Label{Level: level, Set: 0xffff}, level >= c.off.Level)
		}
		for bit := range 16 {
			votes(api.Label{Level: c.off.Level, Set: c.off.Set | 1<<bit}, true)
			votes(api.Label{Level: c.off.Level, Set: c.off.Set &^ (1 << bit)}, c.off.Set>>bit&1 == 0)
			votes(api.Label{Level: 7, Set: 0xffff &^ (1 << bit)}, c.off.Set>>bit&1 == 0)
		}
	}
}

// P10.1: several gates

func TestSeveralGates(t *testing.T) {
	for _, c := range []struct {
		part  int
		lines []string
		at    int
		e     api.Errno
	}{
		// All fit, to one partition and to several.
		{top, []string{"task a", "gate g after a to 0:0000 need 1", "gate h after a to 0:0000 need 1"}, 0, api.OK},
		{top, []string{"task a", "gate g after a to 0:0000 need 1", "gate h after g to 2:0001 need 1", "task b after h", "gate i after b to 2:0002 need 2"}, 0, api.OK},
		// One is wrong: the first one, one between, the last one.
		{top, []string{"gate g to 0:0000 need 1", "task a", "gate h after a to 0:0000 need 1", "gate i after h to 2:0002 need 2"}, 0, api.ErrForm},
		{top, []string{"gate g after a to 0:0000 need 2", "task a", "gate h after a to 0:0000 need 1", "gate i after h to 2:0002 need 2"}, 0, api.ErrState},
		{top, []string{"gate g after a to 0:0000 need 1", "task a", "gate h after a to 2:0003 need 1", "gate i after h to 2:0002 need 2"}, 2, api.ErrLabel},
		{top, []string{"gate g after a to 0:0000 need 1", "task a", "gate h after a to 5:0003 need 1", "gate i after h to 2:0002 need 2"}, 2, api.ErrLabel},
		{top, []string{"gate g after a to 0:0000 need 1", "task a", "gate h after a to 2:0001 need 1", "gate i after h to 2:0002 need 3"}, 3, api.ErrState},
		{top, []string{"gate g after a to 0:0000 need 1", "task a", "gate h after a to 2:0001 need 1", "gate i after h,a to 2:0002 need 2"}, 3, api.ErrForm},
		{top, []string{"task a", "task b", "task c", "task d", "task e", "task f", "gate g after a to 0:0000 need 1", "gate h after a to 0:0000 need 2"}, 7, api.ErrState},
		{top, []string{"gate a after b to 0:0000 need 1", "gate b after c to 0:0000 need 1", "gate c after d to 0:0000 need 1", "gate d after e to 0:0000 need 1", "gate e after f to 0:0000 need 1", "gate f after g to 0:0000 need 1", "gate g after h to 0:0000 need 1", "gate h to 0:0000 need 1"}, 7, api.ErrForm},
		// Two are wrong in unlike ways: the lesser place is told, whichever error it is.
		{top, []string{"task a", "gate g after a to 0:0000 need 2", "gate h to 0:0000 need 1"}, 1, api.ErrState},
		{top, []string{"task a", "gate g after a to 0:0000 need 2", "gate h after a to 1:0000 need 1"}, 1, api.ErrState},
		{top, []string{"task a", "gate g after a to 0:0000 need 2", "gate h after a to 5:0003 need 1"}, 1, api.ErrState},
		{top, []string{"task a", "gate g after a to 5:0003 need 2", "gate h to 0:0000 need 1"}, 1, api.ErrLabel},
		{top, []string{"task a", "gate g after a to 7:0003 need 2", "gate h to 0:0000 need 1"}, 1, api.ErrLabel},
		{top, []string{"task a", "gate g after a to 7:0003 need 2", "gate h after a to 0:0000 need 2"}, 1, api.ErrLabel},
		{top, []string{"task a", "gate g after a,h to 0:0000 need 1", "gate h after a to 0:0000 need 2"}, 1, api.ErrForm},
		{top, []string{"gate h after g to 0:0000 need 2", "gate g after a to 6:0000 need 1", "task a"}, 0, api.ErrState},
		{top, []string{"gate h after g to 6:0000 need 2", "gate g to 0:0000 need 2", "task a"}, 0, api.ErrLabel},
		// One is wrong in several ways: of these the first in the chapter's order is told.
		{top, []string{"task a", "gate g to 1:0000 need 1"}, 1, api.ErrForm},
		{top, []string{"task a", "gate g to 5:0003 need 1"}, 1, api.ErrForm},
		{top, []string{"task a", "gate g to 5:0003 need 4"}, 1, api.ErrForm},
		{top, []string{"task a", "gate g to 0:0000 need 4"}, 1, api.ErrForm},
		{top, []string{"task a", "task b", "gate g after a,b to 7:ffff need 4"}, 2, api.ErrForm},
		{top, []string{"task a", "gate g after a to 7:ffff need 4"}, 1, api.ErrLabel},
		{top, []string{"task a", "gate g after a to 1:0000 need 4"}, 1, api.ErrLabel},
		{top, []string{"task a", "gate g after a to 5:0003 need 4"}, 1, api.ErrLabel},
		{public, []string{"task a", "gate g after a to 2:0001 need 4"}, 1, api.ErrLabel},
		// The same lines in another partition.
		{left, []string{"task a", "gate g after a to 0:0000 need 1", "gate h after a to 2:0001 need 1"}, 2, api.ErrLabel},
		{right, []string{"task a", "gate g after a to 0:0000 need 1", "gate h after a to 2:0001 need 2"}, 0, api.OK},
		{right, []string{"task a", "gate g after a to 0:0000 need 2", "gate h after a to 2:0001 need 2"}, 1, api.ErrState},
		{public, []string{"task a", "gate g after a to 0:0000 need 1", "gate h to 2:0001 need 1"}, 1, api.ErrLabel},
	} {
		checks(t, usual(), c.part, of(t, c.lines...), c.at, c.e)
	}
}

// One wrong gate at each place of eight that are fit.
func TestWrongGateAtEachPlace(t *testing.T) {
	h := usual()
	for i := 1; i < 8; i++ {
		for _, c := range []struct {
			e      api.Errno
			change func(gate *api.Task)
		}{
			{api.OK, func(gate *api.Task) {}},
			{api.ErrForm, func(gate *api.Task) { gate.After = nil }},
			{api.ErrForm, func(gate *api.Task) { gate.After = append(gate.After, 0) }},
			{api.ErrLabel, func(gate *api.Task) { gate.To.Set = 4 }},
			{api.ErrLabel, func(gate *api.Task) { gate.To = h.labels[top] }},
			{api.ErrState, func(gate *api.Task) { gate.Need = 3 }},
		} {
			p := of(t, "task a", "task b", "gate c after b to 0:0000 need 1", "gate d after c to 2:0001 need 1", "gate e after d to 2:0002 need 2", "gate f after b to 0:0000 need 1", "gate g after f to 2:0002 need 1", "gate h after b to 2:0002 need 2")
			if i == 1 {
				p.Tasks[1].After, p.Tasks[1].Need, p.Tasks[1].To = []int{2}, 2, h.labels[right]
				p.Tasks[2] = api.Task{Name: "c", Time: 1}
			}
			c.change(&p.Tasks[i])
			at := i
			if c.e == api.OK {
				at = 0
			}
			checks(t, h, top, p, at, c.e)
		}
	}
}

// P10.1: tasks

func TestTasksAreNeverWrong(t *testing.T) {
	h := usual()
	h.people = nil
	for _, lines := range [][]string{
		{"task a"},
		{"task a", "task b"},
		{"task a", "task b after a"},
		{"task a", "task b", "task c after a,b"},
		{"task a after b,c,d,e,f,g,h", "task b", "task c after b", "task d after c,b", "task e after d,c,b retry 5", "task f time 100", "task g after f,e,d,c,b time 1", "task h"},
	} {
		for part := range h.labels {
			fit(t, h, part, of(t, lines...))
			fit(t, usual(), part, of(t, lines...))
		}
	}
	// Beside gates: behind none, one, several and a gate.
	lines := []string{"task a", "gate g after a to 0:0000 need 1", "task b after a,g", "task c after g", "task d", "gate h after c to 2:0002 need 2", "task e after h,g retry 3"}
	fit(t, usual(), top, of(t, lines...))
	checks(t, usual(), public, of(t, lines...), 1, api.ErrLabel)
	checks(t, h, top, of(t, lines...), 1, api.ErrState)
}

// P10.2: Targets

// targets asks where gates go.
func targets(t *testing.T, h house, p api.Pipeline, want ...int) {
	t.Helper()
	if got := Targets(p, h.roster(t)); !slices.Equal(got, want) {
		t.Errorf("%+v of %v: Targets %v, not %v", p, h, got, want)
	}
	asks(t, h, p)
}

func TestTargets(t *testing.T) {
	for _, c := range []struct {
		lines []string
		want  []int
	}{
		{[]string{"task a"}, []int{-1}},
		{[]string{"task a", "task b", "task c after a,b"}, []int{-1, -1, -1}},
		{[]string{"task a", "task b", "task c", "task d", "task e", "task f", "task g", "task h"}, []int{-1, -1, -1, -1, -1, -1, -1, -1}},
		{[]string{"gate g to 0:0000 need 1"}, []int{0}},
		{[]string{"gate g to 0:0000 need 1", "gate h to 2:0001 need 4", "gate i after h to 2:0002 need 1", "gate j after i,g to 5:0003 need 1"}, []int{0, 1, 2, 3}},
		{[]string{"gate j to 5:0003 need 1", "gate h to 5:0003 need 1", "gate g to 0:0000 need 1", "gate i to 5:0003 need 1"}, []int{3, 3, 0, 3}},
		{[]string{"task a", "gate g after a to 2:0002 need 1", "task b", "gate h after b to 0:0000 need 1"}, []int{-1, 2, -1, 0}},
		{[]string{"gate g after a to 2:0001 need 1", "task a"}, []int{1, -1}},
		// No partition's label.
		{[]string{"task a", "gate g after a to 1:0000 need 1", "gate h after a to 2:0001 need 1"}, []int{-1, -1, 1}},
		{[]string{"gate g to 7:ffff need 1"}, []int{-1}},
		{[]string{"gate g to 2:0003 need 1", "gate h to 5:0002 need 1", "gate i to 0:0001 need 1"}, []int{-1, -1, -1}},
		// With a round: it may be.
		{[]string{"task a after a"}, []int{-1}},
		{[]string{"gate g after g to 5:0003 need 1"}, []int{3}},
		{[]string{"task a after g", "gate g after a to 2:0001 need 1", "gate h to 2:0003 need 1", "gate i after a,g to 0:0000 need 1"}, []int{-1, 1, -1, 0}},
	} {
		targets(t, usual(), of(t, c.lines...), c.want...)
	}
}

func TestTargetsWithoutRoster(t *testing.T) {
	for i, r := range []*roster.Roster{nil, {}} {
		for n := range 8 {
			lines := append(slices.Repeat([]string{"task z"}, n), "gate g to 0:0000 need 1")
			for place := range n {
				lines[place] = "task z" + string([]byte{byte('a' + place)})
			}
			if got := Targets(of(t, lines...), r); !slices.Equal(got, slices.Repeat([]int{-1}, n+1)) {
				t.Error(i, n, got)
			}
		}
		if got := Targets(api.Pipeline{}, r); len(got) != 0 {
			t.Error(i, got)
		}
	}
}

func TestTargetsOfEachRoster(t *testing.T) {
	labels := []api.Label{{Level: 7, Set: 0x8000}, {Level: 7}, {Set: 0xffff}, {}}
	for n := 1; n <= 4; n++ {
		p := api.Pipeline{Name: "p"}
		var want []int
		for i, l := range labels {
			p.Tasks = append(p.Tasks, api.Task{Name: string([]byte{byte('a' + i)}), Time: 5, Need: 1, To: l})
			want = append(want, i)
			if i >= n {
				want[i] = -1
			}
		}
		targets(t, house{labels: labels[:n]}, p, want...)
	}
}

// P10.2: Voters

// votes asks who may vote.
func votes(t *testing.T, h house, part int, to api.Label, want ...int) {
	t.Helper()
	if got := Voters(h.roster(t), part, to); !slices.Equal(got, want) {
		t.Errorf("from %d of %v to %v: Voters %v, not %v", part, h, to, got, want)
	}
	asksVoters(t, h, to)
}

func TestVoters(t *testing.T) {
	for _, c := range []struct {
		part int
		to   api.Label
		want []int
	}{
		// Below.
		{top, api.Label{}, []int{0}},
		{top, api.Label{Level: 2, Set: 1}, []int{0}},
		{top, api.Label{Level: 2, Set: 2}, []int{0, 1}},
		{left, api.Label{}, []int{2}},
		{right, api.Label{}, []int{6}},
		// Aside.
		{left, api.Label{Level: 2, Set: 2}, []int{2}},
		{right, api.Label{Level: 2, Set: 1}, []int{3, 6}},
		// The same, and above: nothing is taken off, so all may.
		{public, api.Label{}, []int{4}},
		{left, api.Label{Level: 2, Set: 1}, []int{2}},
		{right, api.Label{Level: 2, Set: 2}, []int{3, 6}},
		{top, api.Label{Level: 5, Set: 3}, []int{0, 1, 5}},
		{public, api.Label{Level: 5, Set: 3}, []int{4}},
		{left, api.Label{Level: 5, Set: 3}, []int{2}},
		{right, api.Label{Level: 5, Set: 3}, []int{3, 6}},
		// No partition's.
		{top, all, []int{0, 1, 5}},
		{top, api.Label{Level: 5, Set: 1}, []int{0}},
		{top, api.Label{Level: 5, Set: 2}, []int{0, 1}},
		{top, api.Label{Level: 4, Set: 3}, []int{0, 1}},
		{top, api.Label{Level: 6, Set: 2}, []int{0, 1}},
		{top, api.Label{Level: 7}, []int{0}},
		{right, api.Label{Level: 1, Set: 2}, []int{6}},
		{right, api.Label{Level: 2}, []int{3, 6}},
		{left, api.Label{Level: 1, Set: 1}, []int{2}},
		{public, api.Label{Level: 1}, []int{4}},
	} {
		votes(t, usual(), c.part, c.to, c.want...)
	}
}

func TestVotersOfNoPartition(t *testing.T) {
	h := usual()
	for n := 1; n <= 4; n++ {
		people := slices.DeleteFunc(slices.Clone(h.people), func(person api.Person) bool { return person.Part >= n })
		r := house{h.labels[:n], people}.roster(t)
		for _, part := range noPlaces(n) {
			for _, to := range append(h.labels, all, api.Label{Level: 1}) {
				if got := Voters(r, part, to); len(got) != 0 {
					t.Error(n, part, to, got)
				}
			}
		}
	}
	for i, r := range []*roster.Roster{nil, {}} {
		for _, part := range append(noPlaces(0), 0, 1, 2, 3, 4) {
			if got := Voters(r, part, nothing); len(got) != 0 {
				t.Error(i, part, got)
			}
		}
	}
}

func TestNobodyVotes(t *testing.T) {
	for _, people := range [][]api.Person{nil, {}, {{Part: 1, Auth: all}}} {
		h := house{[]api.Label{{Level: 3}, {}}, people}
		votes(t, h, 0, nothing)
		votes(t, h, 0, all)
	}
}

// All may, whichever partition they are of, and each is told once, rising.
func TestVotersRise(t *testing.T) {
	for parts := 1; parts <= 4; parts++ {
		h := house{labels: usual().labels[:parts]}
		for who := range 12 {
			h.people = append(h.people, api.Person{Part: (who * who) % parts, Auth: all})
		}
		for part := range parts {
			var want []int
			for who, person := range h.people {
				if person.Part == part {
					want = append(want, who)
				}
			}
			for _, to := range append(few(8), all) {
				votes(t, h, part, to, want...)
			}
		}
	}
}

// A label that may not be is held against the others as any one.
func TestVotersToNoLabel(t *testing.T) {
	h := usual()
	for _, level := range []int{math.MinInt, -256, -1} {
		votes(t, h, top, api.Label{Level: level, Set: 3}, 0, 1)
		votes(t, h, top, api.Label{Level: level}, 0)
		votes(t, h, public, api.Label{Level: level}, 4)
	}
	for _, level := range []int{8, 256, 1 << 32, math.MaxInt} {
		votes(t, h, top, api.Label{Level: level, Set: 3}, 0, 1, 5)
		votes(t, h, top, api.Label{Level: level}, 0)
		votes(t, h, top, api.Label{Level: level, Set: 2}, 0, 1)
	}
}

// What is handed in, and what is answered

// roomy is a pipeline whose lists have spare room, with something in it.
func roomy(t *testing.T) api.Pipeline {
	p := of(t, "task a", "gate g after a to 2:0002 need 2", "task b after g,a", "gate h after b to 0:0000 need 1")
	for i := range p.Tasks {
		after := append(make([]int, 0, 8), p.Tasks[i].After...)
		copy(after[len(after):8], []int{7, 6, 5, 4, 3, 2, 1, 0})
		p.Tasks[i].After = after
	}
	tasks := append(make([]api.Task, 0, 8), p.Tasks...)
	for i := len(tasks); i < 8; i++ {
		tasks[:8][i] = api.Task{Name: "spare", After: []int{i, 0}, Time: i, Need: 1}
	}
	p.Tasks = tasks
	return p
}

// rosterText is all that a roster tells.
func rosterText(r *roster.Roster) []any {
	told := []any{r.Parts(), r.People()}
	for part := range r.Parts() {
		l, _ := r.Label(part)
		told = append(told, l, r.Find(l), r.Below(l))
		for who := range r.People() {
			told = append(told, r.Part(who), r.Sees(who, part), r.May(who, l))
		}
	}
	return told
}

func TestWhatIsHandedInStaysAsItIs(t *testing.T) {
	h := usual()
	for _, wrong := range []func(p *api.Pipeline){
		func(p *api.Pipeline) {},
		func(p *api.Pipeline) { p.Tasks[0].After = append(p.Tasks[0].After, 3) },
		func(p *api.Pipeline) { p.Tasks[1].After = p.Tasks[1].After[:0] },
		func(p *api.Pipeline) { p.Tasks[3].To.Level = 4 },
		func(p *api.Pipeline) { p.Tasks[3].Need = 4 },
		func(p *api.Pipeline) { p.Tasks[3].Need = 5 },
	} {
		p, q, r := roomy(t), roomy(t), h.roster(t)
		wrong(&p)
		wrong(&q)
		for part := -1; part <= 4; part++ {
			Check(p, r, part)
			Targets(p, r)
			Voters(r, part, h.labels[public])
		}
		for i := range q.Tasks[:8] {
			after, want := p.Tasks[:8][i].After, q.Tasks[:8][i].After
			if !reflect.DeepEqual(p.Tasks[:8][i], q.Tasks[:8][i]) || !slices.Equal(after[:cap(after)], want[:cap(want)]) {
				t.Errorf("%+v, not %+v", p.Tasks[:8][i], q.Tasks[:8][i])
			}
		}
		if p.Name != q.Name || len(p.Tasks) != len(q.Tasks) {
			t.Errorf("%+v, not %+v", p, q)
		}
		if got, want := rosterText(r), rosterText(usual().roster(t)); !reflect.DeepEqual(got, want) {
			t.Errorf("%v, not %v", got, want)
		}
	}
}

// What is written into one answer, its spare room too, moves no other one, nor what was handed in, nor a later answer.
func TestAnswersAreNewMemory(t *testing.T) {
	h, p := usual(), roomy(t)
	r := h.roster(t)
	lists := func() [][]int {
		return [][]int{Targets(p, r), Voters(r, top, h.labels[right]), Targets(p, r), Voters(r, top, h.labels[right]), Voters(r, top, all)}
	}
	want := [][]int{{-1, 2, -1, 0}, {0, 1}, {-1, 2, -1, 0}, {0, 1}, {0, 1, 5}}
	got := lists()
	for i := range got {
		if !slices.Equal(got[i], want[i]) {
			t.Error(i, got[i], want[i])
		}
		room := got[i][:cap(got[i])]
		for place := range room {
			room[place] = 99
		}
		if again := lists(); !reflect.DeepEqual(again, want) {
			t.Error(i, again)
		}
	}
	if !manifest.Same(p, roomy(t)) {
		t.Errorf("%+v", p)
	}
}

// What is written into an error moves no other one.
func TestErrorsAreNewMemory(t *testing.T) {
	h := usual()
	for _, c := range []struct {
		part int
		p    api.Pipeline
		want refusal
	}{
		{top, api.Pipeline{}, refusal{-1, api.ErrArg}},
		{4, of(t, "task a"), refusal{-1, api.ErrArg}},
		{top, of(t, "task a after a"), refusal{0, api.ErrCycle}},
		{top, of(t, "task a", "gate g to 0:0000 need 1"), refusal{1, api.ErrForm}},
		{top, of(t, "task a", "gate g after a to 0:0001 need 1"), refusal{1, api.ErrLabel}},
		{top, of(t, "task a", "gate g after a to 5:0003 need 1"), refusal{1, api.ErrLabel}},
		{top, of(t, "task a", "gate g after a to 0:0000 need 2"), refusal{1, api.ErrState}},
	} {
		r := h.roster(t)
		first, second := Check(c.p, r, c.part), Check(c.p, r, c.part)
		*first.(*api.Fault) = api.Fault{At: 99, Err: api.OK}
		for _, err := range []error{second, Check(c.p, r, c.part)} {
			if got := told(t, err); got != c.want {
				t.Errorf("%+v: %v, not %v", c.p, got, c.want)
			}
		}
	}
}

// What is written into what was handed in moves no answer.
func TestWhatIsHandedInIsNotKept(t *testing.T) {
	h, p := usual(), roomy(t)
	r := h.roster(t)
	where, who := Targets(p, r), Voters(r, top, h.labels[right])
	p.Tasks[3].Need = 2
	err := Check(p, r, top)
	for i := range p.Tasks {
		p.Tasks[i].After, p.Tasks[i].Need, p.Tasks[i].To = []int{i}, 0, all
	}
	if !slices.Equal(where, []int{-1, 2, -1, 0}) || !slices.Equal(who, []int{0, 1}) || told(t, err) != (refusal{3, api.ErrState}) {
		t.Error(where, who, err)
	}
}

// The place of a round is the one that layer 9 tells.
func TestRoundsPlace(t *testing.T) {
	r := usual().roster(t)
	for place := range 8 {
		lines := make([]string, 8)
		for i := range lines {
			lines[i] = "task t" + string([]byte{byte('a' + i)}) + " after t" + string([]byte{byte('a' + max(i, place))})
			if i < place {
				lines[i] = "gate t" + string([]byte{byte('a' + i)}) + " to 7:ffff need 4"
			}
		}
		p := of(t, lines...)
		if got := told(t, Check(p, r, top)); got != (refusal{place, api.ErrCycle}) || order.Round(p) != place {
			t.Error(place, got)
		}
	}
}
