package run

import (
	"math"
	"slices"
	"strings"
	"testing"

	"lockage/api"
	"lockage/codec"
	"lockage/lease"
)

// task is one that is tried once only.
func task(name string, time int, after ...int) api.Task {
	return api.Task{Name: name, After: after, Time: time}
}

// again is one that is tried again.
func again(name string, time, retry int, after ...int) api.Task {
	return api.Task{Name: name, After: after, Time: time, Retry: retry}
}

func gateOf(name string, time, need int, after ...int) api.Task {
	return api.Task{Name: name, After: after, Time: time, Need: need}
}

func pipe(tasks ...api.Task) api.Pipeline { return api.Pipeline{Name: "p", Tasks: tasks} }

// The places of house.
const (
	placeA = 0 // a task, tried again once
	placeB = 1 // a task
	placeG = 2 // a gate behind a that needs two
	placeH = 3 // a gate behind that gate
	placeC = 4 // a task behind b and both gates, told out of order
	places = 5
)

func house() api.Pipeline {
	return pipe(again("a", 3, 1), task("b", 4), gateOf("g", 6, 2, placeA), gateOf("h", 5, 1, placeG), task("c", 2, placeH, placeB, placeG))
}

// begun is a run of a pipeline that may be run.
func begun(t *testing.T, p api.Pipeline, now int) *Run {
	t.Helper()
	r := New(p, now)
	if r == nil {
		t.Fatal("none", p)
	}
	return r
}

// fine is an error that isn't there.
func fine(t *testing.T, e api.Errno) {
	t.Helper()
	if e != api.OK {
		t.Fatal(e)
	}
}

// taken has a task taken by the worker 1, by a lease that is its place and 1.
func taken(t *testing.T, r *Run, place, now int) {
	t.Helper()
	fine(t, r.Take(place, now, 1, place+1))
}

// completed takes a task and completes it, at once.
func completed(t *testing.T, r *Run, place, now int, out string) {
	t.Helper()
	taken(t, r, place, now)
	fine(t, r.Complete(place, now, out))
}

// textOf tells all that there is of a run.
func textOf(r *Run) string {
	var w codec.Writer
	r.Write(&w)
	return w.String()
}

// states are those of all places.
func states(r *Run) []int {
	var list []int
	for i := range r.Pipe().Tasks {
		list = append(list, r.State(i))
	}
	return list
}

// are holds the states of all places against what they should be.
func are(t *testing.T, r *Run, want ...int) {
	t.Helper()
	if got := states(r); !slices.Equal(got, want) {
		t.Fatalf("states %v, not %v", got, want)
	}
}

// stays is a call that changes nothing.
func stays(t *testing.T, r *Run, what string, call func()) {
	t.Helper()
	was := textOf(r)
	call()
	if got := textOf(r); got != was {
		t.Errorf("%s: %q, not %q", what, got, was)
	}
}

// The states by short names.
const (
	wait  = lease.SWait
	ready = lease.SReady
	held  = lease.SHeld
	done  = lease.SDone
	lost  = lease.SFailed
)

// ended are runs of house that aren't Running any more, each with a task that is ready, one that is held, and an open gate.
func ended(t *testing.T) map[int]*Run {
	t.Helper()
	half := func(status int) *Run {
		p := pipe(task("r", 5), task("h", 5), task("d", 5), gateOf("g", 5, 1, 2), task("f", 5), gateOf("w", 5, 1, 0))
		r := begun(t, p, 0)
		completed(t, r, 2, 0, "d")
		taken(t, r, 1, 0)
		taken(t, r, 4, 0)
		switch status {
		case Failed:
			fine(t, r.Miss(4, 0))
		case Cancelled:
			fine(t, r.Cancel())
		}
		return r
	}
	all := begun(t, pipe(task("a", 5), gateOf("g", 5, 1, 0)), 0)
	completed(t, all, 0, 0, "x")
	if _, e := all.Let(1, 0); e != api.OK {
		t.Fatal(e)
	}
	runs := map[int]*Run{Succeeded: all, Failed: half(Failed), Cancelled: half(Cancelled)}
	for status, r := range runs {
		if r.Status() != status {
			t.Fatal(status, r.Status())
		}
	}
	return runs
}

// P13.1

func TestStatuses(t *testing.T) {
	if got := [...]int{Running, Succeeded, Failed, Cancelled}; got != [...]int{0, 1, 2, 3} {
		t.Error(got)
	}
}

// with is house, one of its tasks changed.
func with(place int, change func(t *api.Task)) api.Pipeline {
	p := house()
	change(&p.Tasks[place])
	return p
}

func TestNewOfWhatMayBe(t *testing.T) {
	many := func(n int) api.Pipeline {
		var list []api.Task
		for i := range n {
			list = append(list, task(string(rune('a'+i)), 1))
		}
		return pipe(list...)
	}
	for i, p := range []api.Pipeline{
		house(), many(1), many(8),
		pipe(task("a", 1)), pipe(task("a", 100)), pipe(again("a", 1, 5)), pipe(again("a", 1, 0)),
		pipe(task("p", 1)), // the pipeline's own name
		{Name: "abcdefgh", Tasks: []api.Task{task("hgfedcba", 1)}},
		with(placeG, func(g *api.Task) { g.Need = 1 }), with(placeG, func(g *api.Task) { g.Need = 4 }),
		with(placeG, func(g *api.Task) { g.Time = 1 }), with(placeG, func(g *api.Task) { g.Time = 100 }),
		with(placeG, func(g *api.Task) { g.To = api.Label{Level: 7, Set: math.MaxUint16} }), with(placeG, func(g *api.Task) { g.To = api.Label{} }),
		pipe(task("a", 1), gateOf("g", 1, 1, 0)),                       // behind a task
		pipe(task("a", 1), gateOf("g", 1, 1, 0), gateOf("h", 1, 1, 1)), // behind a gate
		pipe(gateOf("h", 1, 1, 1), gateOf("g", 1, 1, 2), task("a", 1)), // each ahead of what it comes behind
		pipe(task("a", 1), gateOf("g", 1, 1, 0), gateOf("h", 1, 1, 0), task("b", 1, 0)),
		pipe(task("a", 1), task("b", 1, 0), task("c", 1, 1, 0)), // After that doesn't rise
		pipe(task("a", 1, []int{}...)),
	} {
		r := New(p, 0)
		if r == nil {
			t.Errorf("%d: none", i)
		} else if r.Status() != Running {
			t.Error(i, r.Status())
		}
	}
}

func TestNewOfWhatMayNotBe(t *testing.T) {
	var nine []api.Task
	for i := range 9 {
		nine = append(nine, task(string(rune('a'+i)), 1))
	}
	for i, p := range []api.Pipeline{
		{}, {Name: "p"}, {Name: "p", Tasks: []api.Task{}}, {Name: "p", Tasks: nine},
		{Tasks: []api.Task{task("a", 1)}}, {Name: "Ab", Tasks: []api.Task{task("a", 1)}}, {Name: "abcdefghi", Tasks: []api.Task{task("a", 1)}}, {Name: "a b", Tasks: []api.Task{task("a", 1)}},
		pipe(task("", 1)), pipe(task("A", 1)), pipe(task("abcdefghi", 1)), pipe(task("a,", 1)), pipe(task("a\n", 1)), pipe(task("\xff", 1)),
		pipe(task("a", 1), task("a", 1)), pipe(task("a", 1), task("b", 1), gateOf("a", 1, 1, 1)),
		pipe(task("a", 0)), pipe(task("a", 101)), pipe(task("a", -1)), pipe(task("a", math.MinInt)), pipe(task("a", math.MaxInt)),
		pipe(again("a", 1, -1)), pipe(again("a", 1, 6)), pipe(again("a", 1, math.MaxInt)),
		pipe(task("a", 1), task("b", 1, -1)), pipe(task("a", 1), task("b", 1, 2)), pipe(task("a", 1), task("b", 1, math.MaxInt)), pipe(task("a", 1), task("b", 1, math.MinInt)),
		pipe(task("a", 1), task("b", 1, 0, 0)), pipe(task("a", 1), task("b", 1), task("c", 1, 0, 1, 0)),
		pipe(api.Task{Name: "a", Time: 1, To: api.Label{Level: 1}}), pipe(api.Task{Name: "a", Time: 1, To: api.Label{Set: 1}}),
		with(placeG, func(g *api.Task) { g.Need = -1 }), with(placeG, func(g *api.Task) { g.Need = 5 }), with(placeG, func(g *api.Task) { g.Need = math.MinInt }),
		with(placeG, func(g *api.Task) { g.Time = 0 }), with(placeG, func(g *api.Task) { g.Time = 101 }),
		with(placeG, func(g *api.Task) { g.Retry = 1 }), with(placeG, func(g *api.Task) { g.Retry = -1 }),
		with(placeG, func(g *api.Task) { g.To = api.Label{Level: 8} }), with(placeG, func(g *api.Task) { g.To = api.Label{Level: -1} }),
		with(placeC, func(c *api.Task) { c.Name = "a" }),
	} {
		if r := New(p, 0); r != nil {
			t.Errorf("%d: %v", i, r.Pipe())
		}
	}
}

func TestNewOfRounds(t *testing.T) {
	for i, p := range []api.Pipeline{
		pipe(task("a", 1, 0)),
		pipe(task("a", 1), task("b", 1, 1)),
		pipe(task("a", 1, 1), task("b", 1, 0)),
		pipe(task("a", 1), task("b", 1, 0, 2), task("c", 1, 1)),
		pipe(task("a", 1, 7), task("b", 1, 0), task("c", 1, 1), task("d", 1, 2), task("e", 1, 3), task("f", 1, 4), task("g", 1, 5), task("h", 1, 6)),
		pipe(gateOf("g", 1, 1, 0)),
		pipe(gateOf("g", 1, 1, 1), gateOf("h", 1, 1, 0)),
		pipe(task("a", 1, 1), gateOf("g", 1, 1, 0)),
		with(placeA, func(a *api.Task) { a.After = []int{placeC} }),
		with(placeB, func(b *api.Task) { b.After = []int{placeC, placeA} }),
	} {
		if r := New(p, 0); r != nil {
			t.Errorf("%d: %v", i, r.Pipe())
		}
	}
}

func TestNewOfGatesWithoutOneAfter(t *testing.T) {
	for i, p := range []api.Pipeline{
		pipe(gateOf("g", 1, 1)),
		pipe(task("a", 1), gateOf("g", 1, 1)),
		pipe(task("a", 1), gateOf("g", 1, 1, []int{}...)),
		pipe(task("a", 1), task("b", 1), gateOf("g", 1, 1, 0, 1)),
		pipe(task("a", 1), task("b", 1), task("c", 1), gateOf("g", 1, 1, 0, 1, 2)),
		pipe(task("a", 1), gateOf("g", 1, 1, 0), gateOf("h", 1, 1, 0, 1)),
		pipe(task("a", 1), gateOf("g", 1, 1, 0), gateOf("h", 1, 1)),
		with(placeH, func(h *api.Task) { h.After = nil }),
		with(placeG, func(g *api.Task) { g.After = []int{placeA, placeB} }),
	} {
		if r := New(p, 0); r != nil {
			t.Errorf("%d: %v", i, r.Pipe())
		}
	}
}

func TestWhatIsOpenAtOnce(t *testing.T) {
	for _, now := range []int{0, 1, 10, 1000, -3, 1 << 40, -1 << 40} {
		r := begun(t, house(), now)
		are(t, r, ready, ready, wait, wait, wait)
		if r.Status() != Running {
			t.Error(now, r.Status())
		}
		if place, since, ok := r.Best(now); place != placeA || since != now || !ok {
			t.Error(now, place, since, ok)
		}
		fine(t, r.Take(placeA, now, 1, 1))
		if place, since, ok := r.Best(now); place != placeB || since != now || !ok {
			t.Error(now, place, since, ok)
		}
		if place, since, ok := begun(t, house(), now).Best(now - 1); place != -1 || since != 0 || ok {
			t.Error(now, place, since, ok)
		}
	}
	// Where they stand doesn't matter, what they come behind does.
	are(t, begun(t, pipe(task("a", 1, 2), gateOf("g", 1, 1, 0), task("c", 1), task("d", 1), task("e", 1, 3)), 5), wait, wait, ready, ready, wait)
	if got := textOf(begun(t, pipe(task("a", 1), task("b", 2, 0)), 7)); got != "1,p2,1,a0,0,1,0,0,0,1,b1,0,0,2,0,0,0,1,7,0,0,0,0,0,0,0,0,0,0,0,0,0,0,0,0,0," {
		t.Error(got)
	}
}

func TestSettleHeld(t *testing.T) {
	for retry := range 6 {
		r := begun(t, pipe(again("a", 3, retry)), 10)
		now := 10
		for missed := 1; missed <= retry+1; missed++ {
			taken(t, r, 0, now)
			stays(t, r, "a tick ahead", func() { r.Settle(now + 2) })
			are(t, r, held)
			if missed > retry {
				break
			}
			late := now + 3 + missed%2 // when it is found doesn't matter
			r.Settle(late)
			are(t, r, ready)
			now += 3 + missed
			if _, _, ok := r.Best(now - 1); ok {
				t.Error(retry, missed, "too early")
			}
			if _, since, _ := r.Best(now); since != now {
				t.Error(retry, missed, since)
			}
		}
		if r.Status() != Running {
			t.Error(retry, r.Status())
		}
		over := r.Copy()
		r.Settle(now + 3)
		are(t, r, lost)
		over.Settle(now + 300)
		if r.Status() != Failed || textOf(over) != textOf(r) {
			t.Error(retry, r.Status(), textOf(over), textOf(r))
		}
	}
}

func TestSettleOfWhatIsNotHeld(t *testing.T) {
	r := begun(t, pipe(task("a", 3), task("b", 3), task("c", 3, 0)), 10)
	completed(t, r, 1, 10, "b")
	are(t, r, ready, done, wait)
	for _, now := range []int{-1 << 40, -1, 0, 9, 10, 13, 1 << 40} {
		stays(t, r, "ready, done, waits", func() { r.Settle(now) })
	}
}

// What is open in advance isn't opened by Settle: that is for what is done.
func TestSettleOpensNone(t *testing.T) {
	s := "1,p2,1,a0,0,3,0,0,0,1,b1,0,0,3,0,0,0," + "3,0,0,0,0,0,0,0,0," + "0,0,0,0,0,0,0,0,0," + "0,"
	r := Read(codec.NewReader(s))
	are(t, r, done, wait)
	stays(t, r, "waits", func() { r.Settle(50) })
}

func TestSettleOpenGate(t *testing.T) {
	r := begun(t, pipe(task("a", 3), gateOf("g", 4, 2, 0)), 0)
	taken(t, r, 0, 0)
	fine(t, r.Complete(0, 10, "x"))
	if _, e := r.Vote(1, 5, true); e != api.OK {
		t.Fatal(e)
	}
	for _, now := range []int{-5, 0, 4, 10, 13} {
		stays(t, r, "ahead of its end", func() { r.Settle(now) })
	}
	voted := textOf(r)
	for _, now := range []int{14, 15, 1000, 1 << 40} {
		late := r.Copy()
		late.Settle(now)
		are(t, late, done, lost)
		// Its votes stay, its Since doesn't.
		if want := strings.Replace(voted, "1,10,0,0,0,0,", "4,0,0,0,0,0,", 1); late.Status() != Failed || textOf(late) != want {
			t.Errorf("%d: %d, %q, not %q", now, late.Status(), textOf(late), want)
		}
	}
}

func TestSettleGateThatWaits(t *testing.T) {
	r := begun(t, pipe(task("a", 100), gateOf("g", 1, 1, 0), gateOf("h", 1, 1, 1)), 0)
	for _, now := range []int{0, 1, 2, 1000, 1 << 40} {
		stays(t, r, "waits", func() { r.Settle(now) })
	}
	completed(t, r, 0, 50, "x")
	are(t, r, done, ready, wait)
	stays(t, r, "opened at 50", func() { r.Settle(50) })
	if _, e := r.Let(1, 60); e != api.OK {
		t.Fatal(e)
	}
	stays(t, r, "opened at 60", func() { r.Settle(60) })
	r.Settle(61)
	are(t, r, done, done, lost)
}

func TestSettleSeveral(t *testing.T) {
	p := pipe(task("a", 5), task("b", 5), task("d", 1), gateOf("g", 5, 1, 2), gateOf("h", 6, 1, 2), again("r", 5, 1), task("l", 6))
	r := begun(t, p, 0)
	completed(t, r, 2, 0, "d")
	for _, place := range []int{0, 1, 5, 6} {
		taken(t, r, place, 0)
	}
	are(t, r, held, held, done, ready, ready, held, held)
	at4 := textOf(r)
	r.Settle(4)
	if textOf(r) != at4 {
		t.Error(textOf(r))
	}
	// All that end at 5 have ended, though the run has failed with the first.
	late := r.Copy()
	r.Settle(5)
	are(t, r, lost, lost, done, lost, ready, ready, held)
	stays(t, r, "it has failed", func() { r.Settle(1000) })
	late.Settle(6)
	are(t, late, lost, lost, done, lost, lost, ready, lost)
}

// The gate stands ahead of the task with which the run fails, and behind it.
func TestSettleGatesThatWereOpen(t *testing.T) {
	for _, p := range []api.Pipeline{
		pipe(task("a", 5), task("d", 1), gateOf("g", 5, 1, 1)),
		pipe(task("a", 5), gateOf("g", 5, 1, 2), task("d", 1)),
		pipe(gateOf("g", 5, 1, 1), task("d", 1), task("a", 5)),
	} {
		r := begun(t, p, 0)
		for i, one := range p.Tasks {
			switch one.Name {
			case "a":
				taken(t, r, i, 0)
			case "d":
				completed(t, r, i, 0, "d")
			}
		}
		r.Settle(5)
		for i, one := range p.Tasks {
			if want := map[string]int{"a": lost, "d": done, "g": lost}[one.Name]; r.State(i) != want {
				t.Error(p, one.Name, r.State(i))
			}
		}
	}
}

func TestSettleOfWhatIsOver(t *testing.T) {
	for status, r := range ended(t) {
		for _, now := range []int{-1, 0, 4, 5, 6, 1000, 1 << 40} {
			stays(t, r, "settle", func() { r.Settle(now) })
			if r.Status() != status {
				t.Error(status, now, r.Status())
			}
		}
	}
}

func TestStatus(t *testing.T) {
	r := begun(t, pipe(again("a", 3, 1), gateOf("g", 4, 1, 0)), 0)
	steps := []struct {
		do   func(r *Run)
		want int
	}{
		{func(r *Run) {}, Running},
		{func(r *Run) { taken(t, r, 0, 0) }, Running},
		{func(r *Run) { fine(t, r.Miss(0, 1)) }, Running},
		{func(r *Run) { taken(t, r, 0, 2) }, Running},
		{func(r *Run) { fine(t, r.Complete(0, 3, "x")) }, Running},
		{func(r *Run) { r.Vote(1, 2, true) }, Running},
		{func(r *Run) { r.Let(1, 4) }, Succeeded},
	}
	for i, step := range steps {
		if step.do(r); r.Status() != step.want {
			t.Fatal(i, r.Status())
		}
		if step.want == Running {
			over := r.Copy()
			fine(t, over.Cancel())
			if over.Status() != Cancelled {
				t.Error(i, over.Status())
			}
		}
	}
	// Cancelled is told ahead of Failed, that ahead of Succeeded and Running.
	p := "1,p2,1,a0,0,3,0,0,0,1,b0,0,3,0,0,0,"
	tries := map[int]string{wait: "0,0,0,0,0,0,0,0,0,", ready: "1,5,0,0,0,0,0,0,0,", held: "2,0,0,1,1,9,0,0,0,", done: "3,0,0,0,0,0,0,0,0,", lost: "4,0,1,0,0,0,0,0,0,"}
	for a := range 5 {
		for b := range 5 {
			want := Running
			switch {
			case a == lost || b == lost:
				want = Failed
			case a == done && b == done:
				want = Succeeded
			}
			if got := Read(codec.NewReader(p + tries[a] + tries[b] + "0,")).Status(); got != want {
				t.Error(a, b, got)
			}
			if got := Read(codec.NewReader(p + tries[a] + tries[b] + "1,")).Status(); got != Cancelled {
				t.Error(a, b, got, "cancelled")
			}
		}
	}
}

// P13.2

// best holds which task is taken next against what it should be; of none the place is -1.
func best(t *testing.T, r *Run, now, place, since int) {
	t.Helper()
	stays(t, r, "Best", func() {
		if gotPlace, gotSince, ok := r.Best(now); gotPlace != place || gotSince != since || ok != (place >= 0) {
			t.Errorf("Best(%d): %d %d %v, not %d %d", now, gotPlace, gotSince, ok, place, since)
		}
	})
}

func TestBest(t *testing.T) {
	r := begun(t, pipe(again("a", 3, 5), again("b", 3, 5), again("c", 3, 5), task("d", 3, 0, 1, 2)), 10)
	best(t, r, 9, -1, 0)
	best(t, r, 10, 0, 10)
	best(t, r, 1<<40, 0, 10)
	taken(t, r, 0, 10)
	best(t, r, 10, 1, 10)
	fine(t, r.Miss(0, 10)) // since 11
	best(t, r, 11, 1, 10)
	taken(t, r, 1, 10)
	taken(t, r, 2, 10)
	best(t, r, 10, -1, 0)
	best(t, r, 11, 0, 11)
	fine(t, r.Miss(2, 12)) // since 13
	fine(t, r.Miss(1, 12)) // since 13
	best(t, r, 12, 0, 11)
	best(t, r, 13, 0, 11)
	taken(t, r, 0, 13)
	best(t, r, 12, -1, 0)
	best(t, r, 13, 1, 13)  // of those that are alike the first
	fine(t, r.Miss(0, 13)) // since 15
	best(t, r, 15, 1, 13)
	taken(t, r, 1, 15)
	best(t, r, 15, 2, 13) // the least Since, though another one stands ahead
	taken(t, r, 2, 15)
	best(t, r, 15, 0, 15)
}

// All orders in which three tasks may be ready.
func TestBestOfThree(t *testing.T) {
	p := "1,p3,1,a0,0,3,0,0,0,1,b0,0,3,0,0,0,1,c0,0,3,0,0,0,"
	for all := range 5 * 5 * 5 {
		sinces := []int{all / 25, all / 5 % 5, all % 5}
		s := p
		for _, since := range sinces {
			s += "1," + string(rune('0'+since)) + ",0,0,0,0,0,0,0,"
		}
		r := Read(codec.NewReader(s + "0,"))
		for now := range 6 {
			place, least := -1, 0
			for since := now; since >= 0; since-- {
				if at := slices.Index(sinces, since); at >= 0 {
					place, least = at, since
				}
			}
			best(t, r, now, place, least)
		}
	}
}

func TestBestIsNoGate(t *testing.T) {
	r := begun(t, pipe(gateOf("g", 9, 1, 1), task("a", 9), task("b", 9, 0), gateOf("h", 9, 1, 1)), 0)
	completed(t, r, 1, 0, "x")
	are(t, r, ready, done, wait, ready)
	best(t, r, 100, -1, 0)
	if _, e := r.Let(0, 3); e != api.OK {
		t.Fatal(e)
	}
	best(t, r, 2, -1, 0)
	best(t, r, 3, 2, 3)
}

func TestBestOfWhatIsOver(t *testing.T) {
	for _, r := range ended(t) {
		best(t, r, 0, -1, 0)
		best(t, r, 1000, -1, 0)
	}
}

// calls are those of a task.
func calls(r *Run, place, now int) map[string]func() api.Errno {
	return map[string]func() api.Errno{
		"Take":     func() api.Errno { return r.Take(place, now, 1, 9) },
		"Complete": func() api.Errno { return r.Complete(place, now, "out") },
		"too long": func() api.Errno { return r.Complete(place, now, strings.Repeat("o", 33)) },
		"Miss":     func() api.Errno { return r.Miss(place, now) },
		"Beat":     func() api.Errno { return r.Beat(place, now) },
	}
}

// refused holds what the calls of a task answer against what they should; of "" all others.
func refused(t *testing.T, r *Run, place, now int, want map[string]api.Errno) {
	t.Helper()
	for name, call := range calls(r, place, now) {
		e, is := want[name]
		if !is {
			e = want[""]
		}
		if e == api.OK {
			continue
		}
		stays(t, r, name, func() {
			if got := call(); got != e {
				t.Errorf("%s of %d: %v, not %v", name, place, got, e)
			}
		})
	}
}

func TestCallsOfNoTask(t *testing.T) {
	all := map[string]api.Errno{"": api.ErrRange}
	r := begun(t, house(), 0)
	runs := []*Run{r}
	for _, over := range ended(t) {
		runs = append(runs, over)
	}
	for _, one := range runs {
		n := len(one.Pipe().Tasks)
		for _, place := range []int{-1, -2, n, n + 1, 8, 1 << 40, math.MinInt, math.MaxInt} {
			refused(t, one, place, 0, all)
		}
		for place, task := range one.Pipe().Tasks {
			if task.Need > 0 { // whatever its state, and the run's
				refused(t, one, place, 0, all)
			}
		}
	}
	completed(t, r, placeA, 0, "x")
	are(t, r, done, ready, ready, wait, wait)
	refused(t, r, placeG, 0, all)
}

func TestCallsInEachState(t *testing.T) {
	r := begun(t, pipe(again("a", 3, 1), task("b", 3, 0), task("c", 3)), 10)
	other := map[string]api.Errno{"": api.ErrState}
	unheld := map[string]api.Errno{"": api.ErrState, "Take": api.OK}
	refused(t, r, 1, 10, other) // it waits
	refused(t, r, 0, 10, unheld)
	refused(t, r, 0, 9, other) // ready, but later
	refused(t, r, 0, -1<<40, other)
	taken(t, r, 0, 10)
	refused(t, r, 0, 10, map[string]api.Errno{"Take": api.ErrState, "too long": api.ErrArg})
	refused(t, r, 0, 1000, map[string]api.Errno{"Take": api.ErrState, "too long": api.ErrArg}) // nobody has settled it
	fine(t, r.Miss(0, 12))
	refused(t, r, 0, 12, other) // ready from 13 on
	refused(t, r, 0, 13, unheld)
	completed(t, r, 0, 13, "x")
	refused(t, r, 0, 13, other) // it is done
	taken(t, r, 2, 13)
	fine(t, r.Miss(2, 13))
	for place := range 3 {
		refused(t, r, place, 100, other)
	}
}

func TestCallsOfWhatIsOver(t *testing.T) {
	for _, r := range ended(t) {
		for place, task := range r.Pipe().Tasks {
			if task.Need == 0 {
				refused(t, r, place, 0, map[string]api.Errno{"": api.ErrState})
			}
		}
	}
}

func TestTake(t *testing.T) {
	for _, c := range []struct{ now, worker, number, time int }{
		{10, 5, 1, 3}, {10, 0, 0, 1}, {11, 11, 7, 100}, {1000, -1, -1, 2}, {1 << 40, math.MaxInt, math.MinInt, 100},
	} {
		r := begun(t, pipe(task("a", c.time), task("b", 50)), 10)
		fine(t, r.Take(0, c.now, c.worker, c.number))
		are(t, r, held, ready)
		for _, other := range []struct{ now, worker, number int }{{c.now + c.time, c.worker, c.number}, {c.now, c.worker ^ 1, c.number}, {c.now, c.worker, c.number ^ 1}} {
			if place, ok := r.Find(other.now, other.worker, other.number); place != -1 || ok {
				t.Error(c, other, place, ok)
			}
		}
		if place, ok := r.Find(c.now+c.time-1, c.worker, c.number); place != 0 || !ok {
			t.Error(c, place, ok)
		}
		r.Settle(c.now + c.time - 1)
		are(t, r, held, ready)
		r.Settle(c.now + c.time)
		are(t, r, lost, ready)
	}
}

func TestFind(t *testing.T) {
	r := begun(t, pipe(task("a", 3), task("b", 5), task("c", 5)), 0)
	find := func(now, worker, number, place int) {
		t.Helper()
		stays(t, r, "Find", func() {
			if got, ok := r.Find(now, worker, number); got != place || ok != (place >= 0) {
				t.Errorf("Find(%d, %d, %d): %d %v, not %d", now, worker, number, got, ok, place)
			}
		})
	}
	find(0, 0, 0, -1)
	fine(t, r.Take(2, 0, 7, 1))
	find(0, 7, 1, 2)
	fine(t, r.Take(0, 0, 7, 2))
	fine(t, r.Take(1, 0, 7, 1)) // by the same number as c
	find(0, 7, 2, 0)
	find(2, 7, 2, 0)
	find(3, 7, 2, -1) // its time is over
	find(1000, 7, 2, -1)
	find(-1000, 7, 2, 0)
	find(4, 7, 1, 1) // the first one
	find(5, 7, 1, -1)
	find(0, 8, 1, -1)
	find(0, 7, 3, -1)
	find(0, 1, 7, -1)
	find(0, 0, 0, -1)
	fine(t, r.Complete(1, 1, ""))
	find(4, 7, 1, 2)
	fine(t, r.Beat(2, 4))
	find(8, 7, 1, 2)
	find(9, 7, 1, -1)
	fine(t, r.Cancel())
	find(4, 7, 1, -1)
	find(0, 7, 2, -1)
	for status, over := range ended(t) {
		for number := range 8 {
			if place, ok := over.Find(0, 1, number); place != -1 || ok {
				t.Error(status, number, place, ok)
			}
		}
	}
}

func TestCompleteOutputs(t *testing.T) {
	all := make([]byte, 32)
	for i := range all {
		all[i] = byte(i * 8)
	}
	for _, out := range []string{"", "x", "\x00", "5,-1,", string(all), strings.Repeat("\xff", 31), strings.Repeat("o", 32)} {
		r := begun(t, pipe(task("a", 3), task("b", 3, 0)), 0)
		taken(t, r, 0, 0)
		fine(t, r.Complete(0, 2, out))
		are(t, r, done, ready)
		var w codec.Writer
		w.Text(out)
		if got := r.Input(1); got != w.String() {
			t.Errorf("%q: %q", out, got)
		}
		best(t, r, 2, 1, 2)
	}
	for _, size := range []int{33, 34, 64, 600, 1 << 14} {
		r := begun(t, pipe(task("a", 3), task("b", 3, 0)), 0)
		long := strings.Repeat("o", size)
		stays(t, r, "ready", func() {
			if e := r.Complete(0, 0, long); e != api.ErrState {
				t.Error(size, e)
			}
			if e := r.Complete(2, 0, long); e != api.ErrRange {
				t.Error(size, e)
			}
		})
		taken(t, r, 0, 0)
		stays(t, r, "held", func() {
			if e := r.Complete(0, 0, long); e != api.ErrArg {
				t.Error(size, e)
			}
		})
		fine(t, r.Complete(0, 0, long[:32]))
		stays(t, r, "done", func() {
			if e := r.Complete(0, 0, long); e != api.ErrState {
				t.Error(size, e)
			}
		})
	}
}

// Who holds it, and until when, isn't asked: that is for Find.
func TestCompleteLate(t *testing.T) {
	for _, now := range []int{-100, 0, 4, 5, 6, 1000} {
		r := begun(t, pipe(task("a", 5), task("b", 3, 0)), 0)
		taken(t, r, 0, 0)
		fine(t, r.Complete(0, now, "x"))
		are(t, r, done, ready)
		best(t, r, now, 1, now)
	}
}

func TestCompleteOpens(t *testing.T) {
	r := begun(t, pipe(task("c", 3, 1, 2), task("a", 3), task("b", 3), task("d", 3, 1), gateOf("g", 3, 1, 1), task("e", 3, 0, 3), task("f", 3, 2)), 0)
	are(t, r, wait, ready, ready, wait, wait, wait, wait)
	taken(t, r, 1, 0)
	taken(t, r, 2, 0)
	fine(t, r.Complete(1, 2, "x"))
	are(t, r, wait, done, held, ready, ready, wait, wait)
	best(t, r, 2, 3, 2)
	fine(t, r.Complete(2, 3, "y"))
	are(t, r, ready, done, done, ready, ready, wait, ready)
	best(t, r, 3, 3, 2) // opened ahead, its Since is as it was
	taken(t, r, 3, 3)
	best(t, r, 3, 0, 3)
	taken(t, r, 0, 3)
	best(t, r, 3, 6, 3)
	fine(t, r.Complete(0, 4, "z"))
	are(t, r, done, done, done, held, ready, wait, ready)
	fine(t, r.Complete(3, 5, ""))
	are(t, r, done, done, done, done, ready, ready, ready)
	taken(t, r, 6, 5)
	best(t, r, 4, -1, 0)
	best(t, r, 5, 5, 5)
	fine(t, r.Complete(6, 5, ""))
	completed(t, r, 5, 5, "")
	if r.Status() != Running { // the gate is open still
		t.Error(r.Status())
	}
	if _, e := r.Let(4, 5); e != api.OK || r.Status() != Succeeded {
		t.Error(e, r.Status())
	}
}

func TestMiss(t *testing.T) {
	for retry := range 6 {
		r := begun(t, pipe(again("a", 3, retry), task("b", 3, 0)), 0)
		now := 0
		for missed := 1; missed <= retry; missed++ {
			taken(t, r, 0, now)
			fine(t, r.Miss(0, now+1))
			are(t, r, ready, wait)
			now += 1 + missed
			best(t, r, now-1, -1, 0)
			best(t, r, now, 0, now)
			if r.Status() != Running {
				t.Error(retry, missed)
			}
		}
		taken(t, r, 0, now)
		fine(t, r.Miss(0, now))
		are(t, r, lost, wait)
		if r.Status() != Failed {
			t.Error(retry, r.Status())
		}
		best(t, r, 1000, -1, 0)
	}
	// Its time isn't asked.
	r := begun(t, pipe(again("a", 3, 1)), 0)
	taken(t, r, 0, 0)
	fine(t, r.Miss(0, 500))
	best(t, r, 500, -1, 0)
	best(t, r, 501, 0, 501)
}

// What was missed and settled is one count.
func TestMissAndSettle(t *testing.T) {
	r := begun(t, pipe(again("a", 3, 2)), 0)
	taken(t, r, 0, 0)
	r.Settle(3)
	best(t, r, 4, 0, 4)
	taken(t, r, 0, 4)
	fine(t, r.Miss(0, 5))
	best(t, r, 7, 0, 7)
	taken(t, r, 0, 7)
	r.Settle(10)
	are(t, r, lost)
}

func TestBeat(t *testing.T) {
	r := begun(t, pipe(task("a", 3), task("b", 7)), 0)
	taken(t, r, 0, 0)
	taken(t, r, 1, 0)
	fine(t, r.Beat(0, 2))
	r.Settle(4)
	are(t, r, held, held)
	if place, ok := r.Find(4, 1, 1); place != 0 || !ok {
		t.Error(place, ok)
	}
	if _, ok := r.Find(5, 1, 1); ok {
		t.Error("over")
	}
	over := r.Copy()
	over.Settle(5)
	are(t, over, lost, held)
	fine(t, r.Beat(0, 5)) // nobody has settled it
	r.Settle(6)
	are(t, r, held, held)
	fine(t, r.Beat(0, 1)) // a clock that goes back is taken as it is
	if _, ok := r.Find(4, 1, 1); ok {
		t.Error("until 4")
	}
	fine(t, r.Beat(1, 6))
	r.Settle(12)
	are(t, r, lost, held)
	if place, ok := r.Find(12, 1, 2); place != -1 || ok {
		t.Error("it has failed", place, ok)
	}
}

// The example of the chapter: a, b after a.
func TestOneBehindTheOther(t *testing.T) {
	r := begun(t, pipe(task("a", 5), task("b", 5, 0)), 0)
	best(t, r, 0, 0, 0)
	completed(t, r, 0, 0, "x")
	best(t, r, 0, 1, 0)
}

// P13.3

// vote holds a vote's answer against what it should be.
func vote(t *testing.T, r *Run, place, who int, yes, may bool, e api.Errno) {
	t.Helper()
	was := textOf(r)
	if gotMay, got := r.Vote(place, who, yes); gotMay != may || got != e {
		t.Errorf("Vote(%d, %d, %v): %v %v, not %v %v", place, who, yes, gotMay, got, may, e)
	}
	if e != api.OK && textOf(r) != was {
		t.Errorf("Vote(%d, %d, %v): %q, not %q", place, who, yes, textOf(r), was)
	}
}

// let holds what a gate lets go against what it should be.
func let(t *testing.T, r *Run, place, now int, out string, e api.Errno) {
	t.Helper()
	was := textOf(r)
	if gotOut, got := r.Let(place, now); gotOut != out || got != e {
		t.Errorf("Let(%d, %d): %q %v, not %q %v", place, now, gotOut, got, out, e)
	}
	if e != api.OK && textOf(r) != was {
		t.Errorf("Let(%d, %d): %q, not %q", place, now, textOf(r), was)
	}
}

// noGate asks for a vote, and to let go, where there is none that is open.
func noGate(t *testing.T, r *Run, place int, e api.Errno) {
	t.Helper()
	for _, who := range []int{-1, 0, 3, 12} {
		vote(t, r, place, who, true, false, e)
		vote(t, r, place, who, false, false, e)
	}
	for _, now := range []int{-1, 0, 5, 1000} {
		let(t, r, place, now, "", e)
	}
}

func TestVoteAndLetOfNoGate(t *testing.T) {
	r := begun(t, house(), 0)
	runs := []*Run{r}
	for _, over := range ended(t) {
		runs = append(runs, over)
	}
	for _, one := range runs {
		n := len(one.Pipe().Tasks)
		for _, place := range []int{-1, n, n + 1, 8, math.MinInt, math.MaxInt} {
			noGate(t, one, place, api.ErrRange)
		}
		for place, task := range one.Pipe().Tasks {
			if task.Need == 0 {
				noGate(t, one, place, api.ErrRange)
			}
		}
	}
	taken(t, r, placeA, 0) // a task that is held is none either
	noGate(t, r, placeA, api.ErrRange)
}

func TestVoteAndLetInEachState(t *testing.T) {
	r := begun(t, house(), 0)
	noGate(t, r, placeG, api.ErrState) // it waits
	noGate(t, r, placeH, api.ErrState)
	completed(t, r, placeA, 0, "x")
	noGate(t, r, placeH, api.ErrState)
	vote(t, r, placeG, 3, true, false, api.OK)
	let(t, r, placeG, 1, "x", api.OK)
	noGate(t, r, placeG, api.ErrState) // it is done
	vote(t, r, placeH, 3, false, false, api.OK)
	noGate(t, r, placeH, api.ErrState) // it has failed
	noGate(t, r, placeG, api.ErrState)
	for _, over := range ended(t) {
		for place, task := range over.Pipe().Tasks {
			if task.Need > 0 {
				noGate(t, over, place, api.ErrState)
			}
		}
	}
}

// open is a run whose gate, at place 1, is open from 10 on.
func open(t *testing.T, need int) *Run {
	t.Helper()
	r := begun(t, pipe(task("a", 3), gateOf("g", 20, need, 0), task("b", 3, 1)), 10)
	completed(t, r, 0, 10, "secret")
	return r
}

func TestVoteYes(t *testing.T) {
	for need := 1; need <= 4; need++ {
		r := open(t, need)
		for i, who := range []int{3, 11, 0, 7, 5, 1, 2, 4, 6, 8, 9, 10} {
			vote(t, r, 1, who, true, i+1 >= need, api.OK)
			for again := range i + 1 {
				vote(t, r, 1, []int{3, 11, 0, 7, 5, 1, 2, 4, 6, 8, 9, 10}[again], true, false, api.ErrOnce)
			}
			are(t, r, done, ready, wait) // to let it go is another call
		}
		if !strings.Contains(textOf(r), "12,0,1,2,3,4,5,6,7,8,9,10,11,0,") {
			t.Error(textOf(r))
		}
	}
}

func TestVoteOfNobody(t *testing.T) {
	r := open(t, 2)
	for _, who := range []int{-1, 12, 13, math.MinInt, math.MaxInt} {
		stays(t, r, "nobody", func() {
			vote(t, r, 1, who, true, false, api.OK)
			vote(t, r, 1, who, true, false, api.OK) // not noted, so not there already
		})
	}
	vote(t, r, 1, 5, true, false, api.OK)
	vote(t, r, 1, 12, true, false, api.OK)
	vote(t, r, 1, 6, true, true, api.OK)
	vote(t, r, 1, -1, true, true, api.OK) // two are for it still
	vote(t, r, 1, 12, false, false, api.OK)
	are(t, r, done, lost, wait)
}

func TestVoteNo(t *testing.T) {
	for need := 1; need <= 4; need++ {
		for ahead := range 5 {
			for _, who := range []int{0, 2, 11, -1, 12} { // he was for it, or not
				r := open(t, need)
				for one := range ahead {
					vote(t, r, 1, one, true, one+1 >= need, api.OK)
				}
				voted := textOf(r)
				vote(t, r, 1, who, false, false, api.OK)
				are(t, r, done, lost, wait)
				if r.Status() != Failed {
					t.Error(need, ahead, r.Status())
				}
				yes := string(rune('0'+ahead)) + "," + "0,1,2,3,"[:2*ahead]
				want := strings.Replace(voted, "1,10,0,0,0,0,0,"+yes+"0,", "4,0,0,0,0,0,0,"+yes+"1,", 1)
				if got := textOf(r); got != want || got == voted {
					t.Errorf("%q, not %q", got, want)
				}
				noGate(t, r, 1, api.ErrState)
				if e := r.Cancel(); e != api.ErrState {
					t.Error(e)
				}
			}
		}
	}
}

// Votes are those of the one gate.
func TestVotesOfTwoGates(t *testing.T) {
	r := begun(t, pipe(task("a", 3), gateOf("g", 20, 2, 0), gateOf("h", 20, 2, 0)), 0)
	completed(t, r, 0, 0, "x")
	vote(t, r, 1, 4, true, false, api.OK)
	vote(t, r, 2, 4, true, false, api.OK)
	vote(t, r, 2, 4, true, false, api.ErrOnce)
	vote(t, r, 2, 6, true, true, api.OK)
	vote(t, r, 1, 6, true, true, api.OK)
	let(t, r, 2, 1, "x", api.OK)
	vote(t, r, 1, 6, true, false, api.ErrOnce)
	let(t, r, 1, 1, "x", api.OK)
	if r.Status() != Succeeded {
		t.Error(r.Status())
	}
}

// lots is a text as many times as told, each as codec's text.
func lots(out string, times int) string {
	var w codec.Writer
	for range times {
		w.Text(out)
	}
	return w.String()
}

func TestLet(t *testing.T) {
	for _, out := range []string{"", "secret", "\x00\xff,", strings.Repeat("o", 32)} {
		for votes := range 4 { // whether it may go isn't asked here
			r := begun(t, pipe(gateOf("h", 20, 1, 2), task("b", 3, 0, 3, 2), gateOf("g", 20, 2, 3), task("a", 3), task("c", 3, 2)), 0)
			completed(t, r, 3, 0, out)
			for who := range votes {
				vote(t, r, 2, who, true, who > 0, api.OK)
			}
			are(t, r, wait, wait, ready, done, wait)
			let(t, r, 2, 15, out, api.OK)
			are(t, r, ready, wait, done, done, ready)
			best(t, r, 15, 4, 15)
			best(t, r, 14, -1, 0)
			if got := r.Input(4); got != lots(out, 1) {
				t.Errorf("%q", got)
			}
			let(t, r, 2, 16, "", api.ErrState)
			r.Settle(34) // h was opened at 15
			are(t, r, ready, wait, done, done, ready)
			let(t, r, 0, 34, out, api.OK)
			are(t, r, done, ready, done, done, ready)
			if got := r.Input(1); got != lots(out, 3) {
				t.Errorf("%q", got)
			}
			taken(t, r, 4, 34)
			best(t, r, 33, -1, 0)
			best(t, r, 34, 1, 34)
			completed(t, r, 1, 34, "")
			fine(t, r.Complete(4, 34, ""))
			if r.Status() != Succeeded {
				t.Error(r.Status())
			}
			// Its votes are none.
			with, empty := "3,0,0,0,0,0,"+lots(out, 1)+"0,0,", "3,0,0,0,0,0,0,0,0,"
			if got := textOf(r); !strings.HasSuffix(got, "1,c1,2,0,3,0,0,0,"+with+empty+with+with+empty+"0,") {
				t.Errorf("%q", got)
			}
		}
	}
}

// A gate whose time is over is open, until it is settled.
func TestLetLate(t *testing.T) {
	for _, now := range []int{-5, 0, 29, 30, 31, 1000} {
		r := open(t, 1)
		let(t, r, 1, now, "secret", api.OK)
		are(t, r, done, done, ready)
		best(t, r, now, 2, now)
		best(t, r, now-1, -1, 0)
	}
	r := open(t, 1)
	r.Settle(30)
	let(t, r, 1, 29, "", api.ErrState)
}

func TestCancel(t *testing.T) {
	r := begun(t, house(), 0)
	taken(t, r, placeA, 0)
	was := states(r)
	fine(t, r.Cancel())
	if r.Status() != Cancelled {
		t.Error(r.Status())
	}
	are(t, r, was...) // its tries stay
	for status, over := range ended(t) {
		stays(t, over, "cancel", func() {
			if e := over.Cancel(); e != api.ErrState || over.Status() != status {
				t.Error(status, e, over.Status())
			}
		})
	}
}

// P13.4

func TestInput(t *testing.T) {
	p := pipe(task("a", 3), task("b", 3), task("c", 3), task("d", 3, 2, 0, 1), task("e", 3, 1), gateOf("g", 3, 1, 2), task("f", 3, 5, 2))
	r := begun(t, p, 0)
	input := func(place int, want string) {
		t.Helper()
		stays(t, r, "Input", func() {
			if got := r.Input(place); got != want {
				t.Errorf("%d: %q, not %q", place, got, want)
			}
		})
	}
	for _, place := range []int{-1, 7, 8, math.MinInt, math.MaxInt} {
		input(place, "")
	}
	input(0, "")
	input(3, "0,0,0,")
	input(4, "0,")
	completed(t, r, 1, 0, "5,-1,")
	input(3, "0,0,5,5,-1,")
	completed(t, r, 0, 0, "")
	input(3, "0,0,5,5,-1,")
	completed(t, r, 2, 0, "\x00\n\xff"+strings.Repeat("0", 29))
	input(3, "32,\x00\n\xff"+strings.Repeat("0", 29)+"0,5,5,-1,")
	input(4, "5,5,-1,")
	input(5, "32,\x00\n\xff"+strings.Repeat("0", 29))
	input(6, "0,32,\x00\n\xff"+strings.Repeat("0", 29))
	let(t, r, 5, 0, "\x00\n\xff"+strings.Repeat("0", 29), api.OK)
	input(6, lots("\x00\n\xff"+strings.Repeat("0", 29), 2))
	fine(t, r.Cancel())
	input(4, "5,5,-1,") // whatever the run is
	input(-1, "")
	if got := (&Run{}).Input(0); got != "" {
		t.Error(got)
	}
}

func TestState(t *testing.T) {
	r := begun(t, house(), 0)
	stays(t, r, "State", func() {
		for _, place := range []int{-1, -2, places, places + 1, 8, math.MinInt, math.MaxInt} {
			if got := r.State(place); got != -1 {
				t.Error(place, got)
			}
		}
	})
	are(t, r, 1, 1, 0, 0, 0)
	taken(t, r, placeA, 0)
	are(t, r, 2, 1, 0, 0, 0)
	fine(t, r.Complete(placeA, 0, ""))
	are(t, r, 3, 1, 1, 0, 0)
	vote(t, r, placeG, 0, false, false, api.OK)
	are(t, r, 3, 1, 4, 0, 0)
	// It is what the try is, whatever becomes of the run.
	runs := ended(t)
	are(t, runs[Succeeded], done, done)
	are(t, runs[Failed], ready, held, done, ready, lost, wait)
	are(t, runs[Cancelled], ready, held, done, ready, held, wait)
}

// samePipe holds a pipeline against another one, field by field.
func samePipe(a, b api.Pipeline) bool {
	return a.Name == b.Name && slices.EqualFunc(a.Tasks, b.Tasks, func(a, b api.Task) bool {
		return a.Name == b.Name && slices.Equal(a.After, b.After) && a.Retry == b.Retry && a.Time == b.Time && a.Need == b.Need && a.To == b.To
	})
}

// spoil writes into all of a pipeline, up to the end of its lists' room.
func spoil(p *api.Pipeline) {
	p.Name = "spoilt"
	all := p.Tasks[:cap(p.Tasks)]
	for i := range all {
		after := all[i].After[:cap(all[i].After)]
		for j := range after {
			after[j] = -9
		}
		all[i] = api.Task{Name: "spoilt", After: []int{7, 7}, Retry: 99, Time: -3, Need: 77, To: api.Label{Level: 9, Set: 9}}
	}
}

// roomy is house in lists with spare room, and what there is in them.
func roomy() (p api.Pipeline, room []api.Task, after []int) {
	p = house()
	room = append(slices.Clone(p.Tasks), task("spare", 1), task("room", 2))
	after = []int{placeH, placeB, placeG, 101, 102}
	p.Tasks = room[:places]
	p.Tasks[placeC].After = after[:3]
	return p, room, after
}

func TestNewLeavesWhatItWasGiven(t *testing.T) {
	p, room, after := roomy()
	r := begun(t, p, 0)
	completed(t, r, placeA, 0, "x")
	r.Settle(50)
	got := r.Pipe()
	spoil(&got)
	if !samePipe(p, house()) || len(p.Tasks) != places || room[places].Name != "spare" || room[places+1].Name != "room" || !slices.Equal(after, []int{placeH, placeB, placeG, 101, 102}) {
		t.Error(p, room, after)
	}
}

func TestPipelineIsNotKept(t *testing.T) {
	p, _, after := roomy()
	r := begun(t, p, 0)
	was := textOf(r)
	after[0], after[1] = placeA, placeA
	if textOf(r) != was {
		t.Error(textOf(r))
	}
	spoil(&p)
	if textOf(r) != was || !samePipe(r.Pipe(), house()) {
		t.Error(textOf(r))
	}
	walkHouse(t, r)
}

func TestPipe(t *testing.T) {
	r := begun(t, house(), 0)
	was := textOf(r)
	one, two := r.Pipe(), r.Pipe()
	if !samePipe(one, house()) || !samePipe(two, house()) {
		t.Fatal(one, two)
	}
	spoil(&one)
	if !samePipe(two, house()) || textOf(r) != was || !samePipe(r.Pipe(), house()) {
		t.Error(two, textOf(r))
	}
	// No two lists of it share any.
	both := begun(t, pipe(task("a", 1), task("b", 1, 0), task("c", 1, 0)), 0).Pipe()
	both.Tasks[1].After = append(both.Tasks[1].After, 55)
	both.Tasks[1].After[0] = 44
	if !slices.Equal(both.Tasks[2].After, []int{0}) {
		t.Error(both)
	}
	walkHouse(t, r)
	if !samePipe(r.Pipe(), house()) { // as long as it runs, and behind that
		t.Error(r.Pipe())
	}
}

// walkHouse drives house, that has just begun at 0, to its end.
func walkHouse(t *testing.T, r *Run) {
	t.Helper()
	best(t, r, 0, placeA, 0)
	taken(t, r, placeA, 0)
	r.Settle(3)
	best(t, r, 4, placeB, 0)
	taken(t, r, placeB, 4)
	best(t, r, 4, placeA, 4)
	fine(t, r.Take(placeA, 4, 2, 8))
	fine(t, r.Complete(placeB, 5, "b"))
	fine(t, r.Complete(placeA, 6, "a"))
	are(t, r, done, done, ready, wait, wait)
	r.Settle(11)
	vote(t, r, placeG, 7, true, false, api.OK)
	vote(t, r, placeG, 6, true, true, api.OK)
	let(t, r, placeG, 11, "a", api.OK)
	vote(t, r, placeH, 1, true, true, api.OK)
	let(t, r, placeH, 12, "a", api.OK)
	if got := r.Input(placeC); got != "1,a1,b1,a" {
		t.Errorf("%q", got)
	}
	best(t, r, 12, placeC, 12)
	completed(t, r, placeC, 12, "c")
	if r.Status() != Succeeded {
		t.Error(r.Status())
	}
}

// changes are calls that change house, where a is held and g, behind it, is done: each by itself.
func changes(t *testing.T) map[string]func(r *Run) {
	return map[string]func(r *Run){
		"Settle":   func(r *Run) { r.Settle(1000) },
		"Take":     func(r *Run) { fine(t, r.Take(1, 5, 9, 9)) },
		"Complete": func(r *Run) { fine(t, r.Complete(0, 5, "out")) },
		"Miss":     func(r *Run) { fine(t, r.Miss(0, 5)) },
		"Beat":     func(r *Run) { fine(t, r.Beat(0, 5)) },
		"yes":      func(r *Run) { vote(t, r, 3, 2, true, false, api.OK) },
		"no":       func(r *Run) { vote(t, r, 3, 2, false, false, api.OK) },
		"Let":      func(r *Run) { let(t, r, 3, 5, "d", api.OK) },
		"Cancel":   func(r *Run) { fine(t, r.Cancel()) },
		"Pipe":     func(r *Run) { p := r.Pipe(); spoil(&p) },
	}
}

// halfway is a run to which each of these may be done.
func halfway(t *testing.T) *Run {
	t.Helper()
	r := begun(t, pipe(again("a", 9, 1), task("b", 9), task("d", 9), gateOf("g", 9, 4, 2), task("e", 9, 0, 3)), 0)
	completed(t, r, 2, 0, "d")
	taken(t, r, 0, 0)
	vote(t, r, 3, 1, true, false, api.OK)
	vote(t, r, 3, 5, true, false, api.OK)
	return r
}

func TestCopy(t *testing.T) {
	was := textOf(halfway(t))
	for name, change := range changes(t) {
		r := halfway(t)
		c := r.Copy()
		if textOf(c) != was || textOf(r) != was || c == r {
			t.Fatal(name, textOf(c))
		}
		change(c)
		changed := textOf(c)
		if textOf(r) != was || changed == was && name != "Pipe" {
			t.Errorf("%s of a copy: %q, %q", name, textOf(r), changed)
		}
		// And the other way round: what is one's alone is no one else's.
		for other, call := range changes(t) {
			one := r.Copy()
			two := one.Copy()
			change(one)
			call(two)
			fresh := halfway(t)
			call(fresh)
			if textOf(one) != changed || textOf(two) != textOf(fresh) || textOf(r) != was {
				t.Errorf("%s, %s: %q, %q, %q", name, other, textOf(one), textOf(two), textOf(r))
			}
		}
	}
	// Votes that go on behind a copy.
	r := halfway(t)
	one, two := r.Copy(), r.Copy()
	vote(t, one, 3, 3, true, false, api.OK)
	vote(t, two, 3, 7, true, false, api.OK)
	vote(t, one, 3, 7, true, true, api.OK)
	vote(t, two, 3, 3, true, true, api.OK)
	vote(t, r, 3, 11, true, false, api.OK)
	if textOf(one) != textOf(two) || textOf(one) == textOf(r) {
		t.Error(textOf(one), textOf(two), textOf(r))
	}
	for _, over := range ended(t) {
		if c := over.Copy(); textOf(c) != textOf(over) || c.Status() != over.Status() {
			t.Error(textOf(c), textOf(over))
		}
	}
}

// written are runs at each stage of their way, and what each is as a text.
func written(t *testing.T) map[string]*Run {
	t.Helper()
	p := api.Pipeline{Name: "deploy", Tasks: []api.Task{again("build", 30, 2), {Name: "out", After: []int{0}, Time: 7, Need: 2, To: api.Label{Level: 3, Set: 0xbeef}}, task("sign", 100, 1, 0)}}
	const pipeText = "6,deploy3,5,build0,2,30,0,0,0,3,out1,0,0,7,2,3,48879,4,sign2,1,0,0,100,0,0,0,"
	runs := map[string]*Run{}
	r := begun(t, p, 4)
	keep := func(s string) { runs[pipeText+s] = r.Copy() }
	const waits = "0,0,0,0,0,0,0,0,0,"
	keep("1,4,0,0,0,0,0,0,0," + waits + waits + "0,")
	fine(t, r.Take(0, 5, 11, 70))
	keep("2,0,0,11,70,35,0,0,0," + waits + waits + "0,")
	fine(t, r.Miss(0, 8))
	keep("1,9,1,0,0,0,0,0,0," + waits + waits + "0,")
	fine(t, r.Take(0, 9, 0, 71))
	keep("2,0,1,0,71,39,0,0,0," + waits + waits + "0,")
	fine(t, r.Complete(0, 20, "a,1,"))
	keep("3,0,1,0,0,0,4,a,1,0,0," + "1,20,0,0,0,0,0,0,0," + waits + "0,")
	vote(t, r, 1, 11, true, false, api.OK)
	keep("3,0,1,0,0,0,4,a,1,0,0," + "1,20,0,0,0,0,0,1,11,0," + waits + "0,")
	vote(t, r, 1, 4, true, true, api.OK)
	keep("3,0,1,0,0,0,4,a,1,0,0," + "1,20,0,0,0,0,0,2,4,11,0," + waits + "0,")
	over := r.Copy()
	vote(t, over, 1, 5, false, false, api.OK)
	runs[pipeText+"3,0,1,0,0,0,4,a,1,0,0,"+"4,0,0,0,0,0,0,2,4,11,1,"+waits+"0,"] = over
	let(t, r, 1, 22, "a,1,", api.OK)
	keep("3,0,1,0,0,0,4,a,1,0,0," + "3,0,0,0,0,0,4,a,1,0,0," + "1,22,0,0,0,0,0,0,0," + "0,")
	over = r.Copy()
	fine(t, over.Cancel())
	runs[pipeText+"3,0,1,0,0,0,4,a,1,0,0,"+"3,0,0,0,0,0,4,a,1,0,0,"+"1,22,0,0,0,0,0,0,0,"+"1,"] = over
	fine(t, r.Take(2, 22, 3, 72))
	over = r.Copy()
	over.Settle(122)
	runs[pipeText+"3,0,1,0,0,0,4,a,1,0,0,"+"3,0,0,0,0,0,4,a,1,0,0,"+"4,0,1,0,0,0,0,0,0,"+"0,"] = over
	fine(t, r.Complete(2, 22, "\xff"))
	keep("3,0,1,0,0,0,4,a,1,0,0," + "3,0,0,0,0,0,4,a,1,0,0," + "3,0,0,0,0,0,1,\xff0,0," + "0,")
	return runs
}

func TestWrite(t *testing.T) {
	for want, r := range written(t) {
		stays(t, r, "Write", func() {
			r.Write(nil)
			var w codec.Writer
			w.Int(-7)
			r.Write(&w)
			w.Text("x")
			if got := w.String(); got != "-7,"+want+"1,x" {
				t.Errorf("%q, not %q", got, want)
			}
		})
	}
}

func TestRead(t *testing.T) {
	for s, wrote := range written(t) {
		for _, behind := range []string{"", "5,", "x", "5,2,ab" + s} {
			r := codec.NewReader(s + behind)
			read := Read(r)
			if read == nil || !r.Ok() || r.Done() != (behind == "") {
				t.Fatalf("%q: %v %v", s+behind, r.Ok(), r.Done())
			}
			if textOf(read) != s || read.Status() != wrote.Status() || !slices.Equal(states(read), states(wrote)) || !samePipe(read.Pipe(), wrote.Pipe()) {
				t.Errorf("%q: %q", s, textOf(read))
			}
			if strings.HasPrefix(behind, "5,") && r.Int(5, 5) != 5 {
				t.Error("not behind it")
			}
			if strings.HasSuffix(behind, s) && (r.Text(2) != "ab" || Read(r) == nil || !r.Done()) {
				t.Error("not another one behind it")
			}
		}
		// All that is shorter is none.
		for size := range len(s) {
			noRun(t, s[:size])
		}
	}
}

// noRun is a text at whose front no run stands.
func noRun(t *testing.T, s string) {
	t.Helper()
	r := codec.NewReader(s)
	if got := Read(r); got != nil || r.Ok() || r.Done() {
		t.Errorf("%q: %v", s, r.Ok())
	}
	if r.Int(math.MinInt, math.MaxInt) != 0 || r.Text(math.MaxInt) != "" { // it has stopped
		t.Errorf("%q: it goes on", s)
	}
}

func TestReadGoesOn(t *testing.T) {
	r := begun(t, house(), 0)
	var w codec.Writer
	r.Write(&w)
	walkHouse(t, Read(codec.NewReader(w.String())))
	for name, change := range changes(t) {
		one := halfway(t)
		two := Read(codec.NewReader(textOf(one)))
		change(one)
		change(two)
		if textOf(one) != textOf(two) {
			t.Error(name, textOf(one), textOf(two))
		}
	}
}

// The parts of a text that a run is read from.
const (
	head  = "1,p2,"
	lineA = "1,a0,0,3,0,0,0,"
	lineG = "1,g1,0,0,4,1,0,0,"
	stepA = "3,0,0,0,0,0,1,x0,0,"
	stepG = "1,9,0,0,0,0,0,1,3,0,"
	runs  = "0,"
	whole = head + lineA + lineG + stepA + stepG + runs
)

func TestReadOfEachPart(t *testing.T) {
	if r := Read(codec.NewReader(whole)); r == nil || textOf(r) != whole {
		t.Fatal("none")
	}
	in := func(part, other string) string { return strings.Replace(whole, part, other, 1) }
	for _, c := range []struct{ part, may, not string }{
		{head, "8,abcdefgh2,", "9,abcdefghi2,"}, {head, "1,a2,", "0,2,"}, {head, "1,g2,", "1,G2,"}, {head, "1,z2,", "1,z3,"}, {head, "1,z2,", "1,z1,"}, {head, "1,z2,", "1,z0,"}, {head, "1,z2,", "1,z9,"}, {head, "1,z2,", "1,z-2,"}, {head, "1,z2,", "-1,z2,"},
		{lineA, "8,abcdefgh0,0,3,0,0,0,", "9,abcdefghi0,0,3,0,0,0,"}, {lineA, "1,p0,0,3,0,0,0,", "1,g0,0,3,0,0,0,"}, {lineA, "2,ab0,0,3,0,0,0,", "0,0,0,3,0,0,0,"}, {lineA, "1,z0,0,3,0,0,0,", "1,_0,0,3,0,0,0,"},
		{lineA, lineA, "1,a1,0,0,3,0,0,0,"}, {lineA, lineA, "1,a1,1,0,3,0,0,0,"}, {lineA, lineA, "1,a1,2,0,3,0,0,0,"}, {lineA, lineA, "1,a-1,0,3,0,0,0,"}, {lineA, lineA, "1,a9,0,3,0,0,0,"},
		{lineA, "1,a0,5,3,0,0,0,", "1,a0,6,3,0,0,0,"}, {lineA, "1,a0,0,3,0,0,0,", "1,a0,-1,3,0,0,0,"},
		{lineA, "1,a0,0,100,0,0,0,", "1,a0,0,101,0,0,0,"}, {lineA, "1,a0,0,1,0,0,0,", "1,a0,0,0,0,0,0,"}, {lineA, "1,a0,0,1,0,0,0,", "1,a0,0,-1,0,0,0,"},
		{lineA, lineA, "1,a0,0,3,1,0,0,"}, {lineA, lineA, "1,a0,0,3,0,1,0,"}, {lineA, lineA, "1,a0,0,3,0,0,1,"}, {lineA, lineA, "1,a0,0,3,-1,0,0,"},
		{lineG, "1,g1,0,0,4,4,0,0,", "1,g1,0,0,4,5,0,0,"}, {lineG, "1,g1,0,0,4,0,0,0,", "1,g1,0,0,4,0,0,1,"}, {lineG, "1,g1,0,0,4,1,0,0,", "1,g1,0,0,4,-1,0,0,"},
		{lineG, "1,g1,0,0,100,1,0,0,", "1,g1,0,0,101,1,0,0,"}, {lineG, "1,g1,0,0,1,1,0,0,", "1,g1,0,0,0,1,0,0,"}, {lineG, "1,g1,0,0,4,1,7,0,", "1,g1,0,0,4,1,8,0,"}, {lineG, "1,g1,0,0,4,1,7,65535,", "1,g1,0,0,4,1,7,65536,"}, {lineG, lineG, "1,g1,0,0,4,1,-1,0,"}, {lineG, lineG, "1,g1,0,0,4,1,0,-1,"},
		{lineG, lineG, "1,g1,0,1,4,1,0,0,"}, {lineG, lineG, "1,g1,1,0,4,1,0,0,"}, {lineG, lineG, "1,g1,-1,0,4,1,0,0,"}, {lineG, lineG, "1,g1,8,0,4,1,0,0,"}, {lineG, lineG, "1,g0,0,4,1,0,0,"}, {lineG, lineG, "1,g2,0,0,0,4,1,0,0,"}, {lineG, "1,g0,0,4,0,0,0,", "1,g2,0,1,0,4,1,0,0,"},
		{stepA, "2,0,6,1,1,1,1,x0,0,", "2,0,7,1,1,1,1,x0,0,"}, {stepA, "4,0,6,0,0,0,1,x0,0,", "5,0,0,0,0,0,1,x0,0,"}, {stepA, "0,0,0,0,0,0,1,x0,0,", "-1,0,0,0,0,0,1,x0,0,"},
		{stepA, "1,1000000,0,0,0,0,1,x0,0,", "1,1000001,0,0,0,0,1,x0,0,"}, {stepA, "1,0,0,0,0,0,1,x0,0,", "1,-1,0,0,0,0,1,x0,0,"}, {stepA, "2,0,0,1000000,1000000,1000000,1,x0,0,", "2,0,0,1000000,1000000,1000001,1,x0,0,"}, {stepA, stepA, "3,1,0,0,0,0,1,x0,0,"}, {stepA, stepA, "3,0,0,1,0,0,1,x0,0,"},
		{stepA, "3,0,0,0,0,0,32," + strings.Repeat("o", 32) + "0,0,", "3,0,0,0,0,0,33," + strings.Repeat("o", 33) + "0,0,"}, {stepA, "3,0,0,0,0,0,0,0,0,", "3,0,0,0,0,0,-1,0,0,"},
		{stepA, "3,0,0,0,0,0,1,x12,0,1,2,3,4,5,6,7,8,9,10,11,0,", "3,0,0,0,0,0,1,x13,0,1,2,3,4,5,6,7,8,9,10,11,12,0,"}, {stepA, "3,0,0,0,0,0,1,x0,1,", "3,0,0,0,0,0,1,x0,2,"},
		{stepG, "1,9,0,0,0,0,0,1,11,0,", "1,9,0,0,0,0,0,1,12,0,"}, {stepG, "1,9,0,0,0,0,0,1,0,0,", "1,9,0,0,0,0,0,1,-1,0,"}, {stepG, "1,9,0,0,0,0,0,2,3,4,1,", "1,9,0,0,0,0,0,2,4,3,1,"}, {stepG, "1,9,0,0,0,0,0,0,0,", "1,9,0,0,0,0,0,2,3,3,0,"}, {stepG, "1,9,0,0,0,0,0,0,1,", "1,9,0,0,0,0,0,0,-1,"},
		{stepG + runs, stepG + "1,", stepG + "2,"}, {stepG + runs, stepG + "0,", stepG + "-1,"}, {stepG + runs, stepG + "1,", stepG + "01,"}, {stepG + runs, stepG + "1,", stepG + "+1,"}, {stepG + runs, stepG + "0,", stepG + "0"}, {stepG + runs, stepG + "0,", stepG + "-0,"}, {stepG + runs, stepG + "0,", stepG},
		{head, head, "01,p2,"}, {head, head, "1,p02,"}, {head, head, "1,p+2,"}, {head, head, "1,p 2,"}, {head, head, "1p2,"}, {head, head, "1,p,"}, {head, head, "1;p2;"}, {head, head, "2,p2,"}, {head, head, ""},
	} {
		s := in(c.part, c.may)
		r := codec.NewReader(s)
		if got := Read(r); got == nil || !r.Done() || textOf(got) != s {
			t.Errorf("%q: none, or not as it was", s)
		}
		noRun(t, in(c.part, c.not))
	}
}

// What New wouldn't take, in texts whose numbers are fit each by itself.
func TestReadOfPipelinesThatAreNotRun(t *testing.T) {
	steps := func(n int) string { return strings.Repeat("0,0,0,0,0,0,0,0,0,", n) + "0," }
	line := func(name, after, need string) string { return "1," + name + after + "0,3," + need + "0,0," }
	for _, c := range []struct {
		lines []string
		may   bool
	}{
		{[]string{line("a", "0,", "0,")}, true}, {[]string{line("a", "1,0,", "0,")}, false}, {[]string{line("a", "0,", "1,")}, false}, {[]string{line("a", "1,0,", "1,")}, false},
		{[]string{line("a", "0,", "0,"), line("b", "1,0,", "0,")}, true}, {[]string{line("a", "0,", "0,"), line("a", "1,0,", "0,")}, false}, {[]string{line("a", "1,1,", "0,"), line("b", "1,0,", "0,")}, false},
		{[]string{line("a", "0,", "0,"), line("b", "2,0,0,", "0,")}, false}, {[]string{line("a", "0,", "0,"), line("b", "1,2,", "0,")}, false}, {[]string{line("a", "0,", "0,"), line("b", "1,1,", "0,")}, false},
		{[]string{line("a", "1,2,", "0,"), line("b", "1,0,", "0,"), line("c", "1,1,", "0,")}, false}, {[]string{line("a", "1,2,", "0,"), line("b", "1,0,", "0,"), line("c", "0,", "0,")}, true}, {[]string{line("a", "1,2,", "1,"), line("b", "1,0,", "2,"), line("c", "0,", "0,")}, true},
		{[]string{line("a", "0,", "0,"), line("b", "0,", "0,"), line("c", "2,1,0,", "0,")}, true}, {[]string{line("a", "0,", "0,"), line("b", "0,", "0,"), line("c", "2,1,0,", "1,")}, false}, {[]string{line("a", "0,", "0,"), line("b", "0,", "0,"), line("c", "1,1,", "1,")}, true},
		{[]string{line("a", "0,", "0,"), line("b", "0,", "0,"), line("c", "0,", "0,"), line("d", "0,", "0,"), line("e", "0,", "0,"), line("f", "0,", "0,"), line("g", "0,", "0,"), line("h", "7,0,1,2,3,4,5,6,", "0,")}, true},
		{[]string{line("a", "0,", "0,"), line("b", "0,", "0,"), line("c", "0,", "0,"), line("d", "0,", "0,"), line("e", "0,", "0,"), line("f", "0,", "0,"), line("g", "0,", "0,"), line("h", "8,0,1,2,3,4,5,6,7,", "0,")}, false},
		{[]string{line("a", "0,", "0,"), line("b", "0,", "0,"), line("c", "0,", "0,"), line("d", "0,", "0,"), line("e", "0,", "0,"), line("f", "0,", "0,"), line("g", "0,", "0,"), line("h", "0,", "0,"), line("i", "0,", "0,")}, false},
	} {
		s := "1,p" + string(rune('0'+len(c.lines))) + "," + strings.Join(c.lines, "") + steps(len(c.lines))
		if !c.may {
			noRun(t, s)
		} else if got := Read(codec.NewReader(s)); got == nil || textOf(got) != s {
			t.Errorf("%q: none", s)
		}
	}
}

// Tries are read whatever they are: as they stand there, not as they would have come about.
func TestReadOfAnyTries(t *testing.T) {
	tries := []string{"0,0,4,0,0,0,", "1,7,2,0,0,0,", "2,0,6,5,4,12,", "3,0,0,0,0,0,", "4,0,0,0,0,0,"}
	rest := []string{"0,0,0,", "2,xy0,0,", "0,1,5,1,", "1,z2,0,11,0,"}
	for _, a := range tries {
		for _, g := range tries {
			for i := range 16 {
				for _, end := range []string{"0,", "1,"} {
					s := head + lineA + lineG + a + rest[i/4] + g + rest[i%4] + end
					r := Read(codec.NewReader(s))
					if r == nil || textOf(r) != s {
						t.Fatalf("%q: none", s)
					}
				}
			}
		}
	}
}

// A gate that is held is none of the tasks that somebody has, and isn't settled as one; what is open only that was read goes on.
func TestReadOfHeldGate(t *testing.T) {
	r := Read(codec.NewReader(head + lineA + lineG + "1,0,0,0,0,0,0,0,0," + "2,0,0,5,4,12,0,0,0," + runs))
	if place, ok := r.Find(3, 5, 4); place != -1 || ok {
		t.Error(place, ok)
	}
	stays(t, r, "Settle", func() { r.Settle(100) })
	refused(t, r, 1, 3, map[string]api.Errno{"": api.ErrRange})
	noGate(t, r, 1, api.ErrState)
	r = Read(codec.NewReader(head + lineA + lineG + "0,0,0,0,0,0,2,xy0,0," + "1,9,3,0,0,0,1,z1,4,1," + runs))
	vote(t, r, 1, 5, true, false, api.OK) // one was against it
	let(t, r, 1, 2, "xy", api.OK)
	if want := head + lineA + lineG + "1,2,0,0,0,0,2,xy0,0," + "3,0,3,0,0,0,2,xy0,0," + runs; textOf(r) != want {
		t.Errorf("%q", textOf(r)) // a waited for none
	}
}

func TestReadOfReaders(t *testing.T) {
	if Read(nil) != nil {
		t.Error("nil")
	}
	stopped := codec.NewReader("x," + whole)
	stopped.Int(0, 0)
	if Read(stopped) != nil || stopped.Ok() {
		t.Error("stopped")
	}
	lenient := codec.NewReader("7," + whole)
	if lenient.Int(0, 9); Read(lenient) == nil || !lenient.Done() {
		t.Error("behind a number")
	}
}

// Each text with one byte changed, left out or put in: read only if it is what that run writes.
func TestReadOfOneByteChanged(t *testing.T) {
	met := map[bool]int{}
	for s := range written(t) {
		for at := range len(s) {
			for _, b := range []string{"", "0", "1", "3", "9", ",", "-", "a", " ", "\x00", "\xff"} {
				for _, cut := range []int{0, 1} {
					changed := s[:at] + b + s[at+cut:]
					r := codec.NewReader(changed)
					got := Read(r)
					met[got != nil]++
					if got == nil != !r.Ok() || got != nil && !strings.HasPrefix(changed, textOf(got)) {
						t.Fatalf("%q", changed)
					}
				}
			}
		}
	}
	if met[true] < 100 || met[false] < 1000 {
		t.Error(met)
	}
}

func TestOfNil(t *testing.T) {
	var r *Run
	r.Settle(5)
	if r.Status() != Failed {
		t.Error(r.Status())
	}
	if place, since, ok := r.Best(5); place != -1 || since != 0 || ok {
		t.Error(place, since, ok)
	}
	if place, ok := r.Find(0, 0, 0); place != -1 || ok {
		t.Error(place, ok)
	}
	for _, place := range []int{-1, 0, 1, 99} {
		for name, call := range calls(r, place, 0) {
			if e := call(); e != api.ErrNil {
				t.Error(name, e)
			}
		}
		for _, yes := range []bool{false, true} {
			if may, e := r.Vote(place, 3, yes); may || e != api.ErrNil {
				t.Error(may, e)
			}
		}
		if out, e := r.Let(place, 0); out != "" || e != api.ErrNil {
			t.Error(out, e)
		}
		if r.Input(place) != "" || r.State(place) != -1 {
			t.Error(r.Input(place), r.State(place))
		}
	}
	if e := r.Cancel(); e != api.ErrNil {
		t.Error(e)
	}
	if p := r.Pipe(); p.Name != "" || len(p.Tasks) != 0 {
		t.Error(p)
	}
	if r.Copy() != nil {
		t.Error("copy")
	}
	var w codec.Writer
	r.Write(&w)
	r.Write(nil)
	if w.String() != "" {
		t.Error(w.String())
	}
}

// A Run that New didn't make has no places: no call panics.
func TestOfZero(t *testing.T) {
	r := &Run{}
	r.Settle(5)
	r.Copy().Settle(5)
	for _, place := range []int{-1, 0, 1} {
		refused(t, r, place, 0, map[string]api.Errno{"": api.ErrRange})
		noGate(t, r, place, api.ErrRange)
		if r.Input(place) != "" || r.State(place) != -1 {
			t.Error(place)
		}
	}
	best(t, r, 0, -1, 0)
	noRun(t, textOf(r))
}
