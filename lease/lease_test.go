package lease

import (
	"math"
	"strings"
	"testing"

	"lockage/api"
	"lockage/codec"
)

// Tries of each state that may be, whose numbers differ from each other.
var (
	waits  = Try{State: SWait, Missed: 3}
	ready  = Try{State: SReady, Since: 20, Missed: 2}
	held   = Try{State: SHeld, Missed: 2, Worker: 7, Lease: 9, Until: 30}
	done   = Try{State: SDone, Missed: 4}
	failed = Try{State: SFailed, Missed: 6}
)

// full is a try in a state all of whose other numbers aren't 0: it may be in none.
func full(state int) Try {
	return Try{State: state, Since: 11, Missed: 3, Worker: 5, Lease: 8, Until: 25}
}

// tries are those that may be, in each state, and some that may not.
func tries() []Try {
	list := []Try{{}, waits, {State: SReady}, ready, {State: SHeld}, held, {State: SDone}, done, {State: SFailed}, failed}
	for _, state := range []int{math.MinInt, -2, -1, 0, 1, 2, 3, 4, 5, 6, 258, math.MaxInt} {
		list = append(list, full(state), Try{State: state, Missed: 7}, Try{State: state, Since: -1}, Try{State: state, Worker: -1, Lease: -1, Until: -1})
	}
	return list
}

// isHeld and isReady tell a state by its number, as the chapter does.
func isHeld(t Try) bool  { return t.State == 2 }
func isReady(t Try) bool { return t.State == 1 }

// P11.1

func TestStates(t *testing.T) {
	if got := [...]int{SWait, SReady, SHeld, SDone, SFailed}; got != [...]int{0, 1, 2, 3, 4} {
		t.Error(got)
	}
}

func TestRightInEachState(t *testing.T) {
	for i, c := range []Try{
		{}, waits, ready, held, done, failed,
		{State: 1}, {State: 2}, {State: 3}, {State: 4},
		{State: 0, Missed: 6}, {State: 1, Missed: 6}, {State: 2, Missed: 6}, {State: 3, Missed: 6}, {State: 4, Missed: 6},
		{State: 1, Since: 1}, {State: 1, Since: 1000000}, {State: 1, Since: 1000000, Missed: 6},
		{State: 2, Worker: 1}, {State: 2, Lease: 1}, {State: 2, Until: 1},
		{State: 2, Worker: 1000000}, {State: 2, Lease: 1000000}, {State: 2, Until: 1000000},
		{State: 2, Missed: 6, Worker: 1000000, Lease: 1000000, Until: 1000000},
	} {
		if !Right(c) {
			t.Error(i, c)
		}
	}
}

func TestNotRight(t *testing.T) {
	for i, c := range []Try{
		{State: -1}, {State: 5}, {State: 6}, {State: math.MinInt}, {State: math.MaxInt},
		{State: 1, Since: -1}, {State: 1, Since: 1000001}, {State: 1, Since: math.MinInt}, {State: 1, Since: math.MaxInt},
		{State: 2, Worker: -1}, {State: 2, Worker: 1000001}, {State: 2, Worker: math.MinInt}, {State: 2, Worker: math.MaxInt},
		{State: 2, Lease: -1}, {State: 2, Lease: 1000001}, {State: 2, Lease: math.MinInt}, {State: 2, Lease: math.MaxInt},
		{State: 2, Until: -1}, {State: 2, Until: 1000001}, {State: 2, Until: math.MinInt}, {State: 2, Until: math.MaxInt},
		{State: 1, Since: 1000000, Missed: 7}, {State: 2, Missed: 6, Worker: 1000000, Lease: 1000000, Until: 1000001},
	} {
		if Right(c) {
			t.Error(i, c)
		}
	}
	for state := range 5 {
		for _, missed := range []int{-1, 7, 8, math.MinInt, math.MaxInt} {
			if Right(Try{State: state, Missed: missed}) {
				t.Error(state, missed)
			}
		}
	}
}

func TestRightOfWhatIsAnotherStates(t *testing.T) {
	for _, n := range []int{1, 2, 1000000, -1} {
		for state := range 5 {
			if Right(Try{State: state, Since: n}) != (n > 0 && state == 1) {
				t.Error("since", state, n)
			}
			for i, c := range []Try{{State: state, Worker: n}, {State: state, Lease: n}, {State: state, Until: n}} {
				if Right(c) != (n > 0 && state == 2) {
					t.Error(i, state, n)
				}
			}
		}
	}
	for _, c := range tries() {
		if c.Since != 0 && c.Worker != 0 && Right(c) {
			t.Error(c)
		}
	}
}

func TestOpen(t *testing.T) {
	if got := Open(Try{}, 10); got != (Try{State: SReady, Since: 10}) {
		t.Error(got)
	}
	for _, now := range []int{-1 << 40, -1, 0, 1, 10, 1000000, 1000001, 1 << 40} {
		if got := Open(Try{}, now); got != (Try{State: 1, Since: now}) {
			t.Error(now, got)
		}
		if got := Open(waits, now); got != (Try{State: 1, Since: now, Missed: 3}) {
			t.Error(now, got)
		}
		if got := Open(full(SWait), now); got.State != 1 || got.Since != now {
			t.Error(now, got)
		}
		for _, c := range tries() {
			if c.State != 0 && Open(c, now) != c {
				t.Error(now, c, Open(c, now))
			}
		}
	}
}

func TestMiss(t *testing.T) {
	for i, c := range []struct {
		t         Try
		at, retry int
		want      Try
	}{
		// The new Missed is one fewer than retry, just as great, and one more.
		{held, 30, 4, Try{State: 1, Since: 33, Missed: 3}},
		{held, 30, 3, Try{State: 1, Since: 33, Missed: 3}},
		{held, 30, 2, Try{State: 4, Missed: 3}},
		{Try{State: 2}, 5, 5, Try{State: 1, Since: 6, Missed: 1}},
		{Try{State: 2}, 5, 2, Try{State: 1, Since: 6, Missed: 1}},
		{Try{State: 2}, 5, 1, Try{State: 1, Since: 6, Missed: 1}},
		{Try{State: 2}, 5, 0, Try{State: 4, Missed: 1}},
		{Try{State: 2}, 5, -1, Try{State: 4, Missed: 1}},
		{Try{State: 2}, 5, math.MinInt, Try{State: 4, Missed: 1}},
		{Try{State: 2}, 5, math.MaxInt, Try{State: 1, Since: 6, Missed: 1}},
		{Try{State: 2, Missed: 4}, 0, 5, Try{State: 1, Since: 5, Missed: 5}},
		{Try{State: 2, Missed: 5}, 0, 5, Try{State: 4, Missed: 6}},
		{Try{State: 2, Missed: 5}, 0, 6, Try{State: 1, Since: 6, Missed: 6}},
		{Try{State: 2, Missed: 6}, 0, 7, Try{State: 1, Since: 7, Missed: 7}},
		// at is any time: Until doesn't count, and what held it goes.
		{held, 29, 5, Try{State: 1, Since: 32, Missed: 3}},
		{held, 1000, 5, Try{State: 1, Since: 1003, Missed: 3}},
		{held, 0, 5, Try{State: 1, Since: 3, Missed: 3}},
		{held, -3, 5, Try{State: 1, Since: 0, Missed: 3}},
		{held, -10, 5, Try{State: 1, Since: -7, Missed: 3}},
		{held, 1 << 40, 5, Try{State: 1, Since: 1<<40 + 3, Missed: 3}},
		{held, -1 << 40, 5, Try{State: 1, Since: -1<<40 + 3, Missed: 3}},
		{held, -1 << 40, 2, Try{State: 4, Missed: 3}},
		// Tries that may not be, and retries below 0.
		{full(SHeld), 40, 4, Try{State: 1, Since: 44, Missed: 4}},
		{full(SHeld), 40, 3, Try{State: 4, Missed: 4}},
		{Try{State: 2, Missed: -1}, 5, 0, Try{State: 1, Since: 5}},
		{Try{State: 2, Missed: -1}, 5, -1, Try{State: 4}},
		{Try{State: 2, Missed: -3}, 5, -1, Try{State: 1, Since: 3, Missed: -2}},
		{Try{State: 2, Missed: -3}, 5, -2, Try{State: 1, Since: 3, Missed: -2}},
		{Try{State: 2, Missed: -3}, 5, -3, Try{State: 4, Missed: -2}},
		{Try{State: 2, Missed: 99}, 5, 100, Try{State: 1, Since: 105, Missed: 100}},
		{Try{State: 2, Missed: 99}, 5, 99, Try{State: 4, Missed: 100}},
	} {
		if got := Miss(c.t, c.at, c.retry); got != c.want {
			t.Errorf("%d: %v, not %v", i, got, c.want)
		}
	}
}

func TestMissOfOthers(t *testing.T) {
	for _, c := range tries() {
		for _, at := range []int{-5, 0, 25, 30, 1000} {
			for _, retry := range []int{-1, 0, 2, 3, 5} {
				if !isHeld(c) && Miss(c, at, retry) != c {
					t.Error(c, at, retry, Miss(c, at, retry))
				}
			}
		}
	}
}

func TestSettle(t *testing.T) {
	for i, c := range []struct {
		t          Try
		now, retry int
		want       Try
	}{
		{held, 28, 5, held},
		{held, 29, 5, held},
		{held, 29, 0, held},
		{held, 29, -1, held},
		{held, 30, 5, Try{State: 1, Since: 33, Missed: 3}},
		{held, 31, 5, Try{State: 1, Since: 33, Missed: 3}},
		{held, 1000, 5, Try{State: 1, Since: 33, Missed: 3}},
		{held, 1 << 40, 3, Try{State: 1, Since: 33, Missed: 3}},
		{held, 30, 2, Try{State: 4, Missed: 3}},
		{held, 31, 2, Try{State: 4, Missed: 3}},
		{held, 30, -1, Try{State: 4, Missed: 3}},
		{held, 0, 2, held},
		{held, -1 << 40, 2, held},
		{Try{State: 2}, -1, 0, Try{State: 2}},
		{Try{State: 2}, 0, 0, Try{State: 4, Missed: 1}},
		{Try{State: 2}, 0, 1, Try{State: 1, Since: 1, Missed: 1}},
		{Try{State: 2, Until: -4}, -5, 1, Try{State: 2, Until: -4}},
		{Try{State: 2, Until: -4}, -4, 1, Try{State: 1, Since: -3, Missed: 1}},
		{Try{State: 2, Until: -4}, -3, 1, Try{State: 1, Since: -3, Missed: 1}},
		{full(SHeld), 24, 3, full(SHeld)},
		{full(SHeld), 25, 3, Try{State: 4, Missed: 4}},
		{full(SHeld), 26, 4, Try{State: 1, Since: 29, Missed: 4}},
	} {
		if got := Settle(c.t, c.now, c.retry); got != c.want {
			t.Errorf("%d: %v, not %v", i, got, c.want)
		}
	}
	for _, c := range tries() {
		for _, now := range []int{-1 << 40, -1, 0, 24, 25, 26, 1 << 40} {
			if !isHeld(c) && Settle(c, now, 2) != c {
				t.Error(c, now, Settle(c, now, 2))
			}
		}
	}
}

// The chapter's example.
func TestTakenAndSettled(t *testing.T) {
	c, e := Take(Try{State: SReady}, 3, 1, 1, 5)
	if e != api.OK || Settle(c, 7, 1) != c {
		t.Error(c, e)
	}
	if got := Settle(c, 8, 1); got != (Try{State: SReady, Since: 9, Missed: 1}) {
		t.Error(got)
	}
}

func TestDone(t *testing.T) {
	for i, c := range []struct{ t, want Try }{
		{held, Try{State: 3, Missed: 2}},
		{ready, Try{State: 3, Missed: 2}},
		{Try{State: 2}, Try{State: 3}},
		{Try{State: 1}, Try{State: 3}},
		{Try{State: 2, Missed: 6, Until: 1}, Try{State: 3, Missed: 6}},
		{full(SHeld), Try{State: 3, Missed: 3}},
		{full(SReady), Try{State: 3, Missed: 3}},
		{Try{State: 1, Missed: -1}, Try{State: 3, Missed: -1}},
		{Try{State: 2, Missed: 7}, Try{State: 3, Missed: 7}},
		{waits, waits}, {done, done}, {failed, failed}, {Try{}, Try{}},
		{full(SWait), full(SWait)}, {full(SDone), full(SDone)}, {full(SFailed), full(SFailed)},
	} {
		if got := Done(c.t); got != c.want {
			t.Errorf("%d: %v, not %v", i, got, c.want)
		}
	}
	for _, c := range tries() {
		if !isHeld(c) && !isReady(c) && Done(c) != c {
			t.Error(c, Done(c))
		}
	}
}

// P11.2

func TestTake(t *testing.T) {
	for i, c := range []struct {
		t                        Try
		now, worker, lease, time int
		want                     Try
		e                        api.Errno
	}{
		{ready, 18, 3, 1, 4, Try{}, api.ErrState},
		{ready, 19, 3, 1, 4, Try{}, api.ErrState},
		{ready, 20, 3, 1, 4, Try{State: 2, Missed: 2, Worker: 3, Lease: 1, Until: 24}, api.OK},
		{ready, 21, 3, 1, 4, Try{State: 2, Missed: 2, Worker: 3, Lease: 1, Until: 25}, api.OK},
		{ready, 1 << 40, 3, 1, 4, Try{State: 2, Missed: 2, Worker: 3, Lease: 1, Until: 1<<40 + 4}, api.OK},
		{ready, -1 << 40, 3, 1, 4, Try{}, api.ErrState},
		{ready, -20, 3, 1, 4, Try{}, api.ErrState},
		{Try{State: 1}, -1, 3, 1, 4, Try{}, api.ErrState},
		{Try{State: 1}, 0, 3, 1, 4, Try{State: 2, Worker: 3, Lease: 1, Until: 4}, api.OK},
		{Try{State: 1}, 1, 0, 0, 0, Try{State: 2, Until: 1}, api.OK},
		{Try{State: 1, Missed: 6}, 1, 2, 3, 4, Try{State: 2, Missed: 6, Worker: 2, Lease: 3, Until: 5}, api.OK},
		// Times, workers and leases of any kind are taken as they are.
		{Try{State: 1, Since: -5}, -6, 3, 1, 4, Try{}, api.ErrState},
		{Try{State: 1, Since: -5}, -5, 3, 1, 4, Try{State: 2, Worker: 3, Lease: 1, Until: -1}, api.OK},
		{ready, 20, 3, 1, -50, Try{State: 2, Missed: 2, Worker: 3, Lease: 1, Until: -30}, api.OK},
		{ready, 20, -3, -1, 0, Try{State: 2, Missed: 2, Worker: -3, Lease: -1, Until: 20}, api.OK},
		{ready, 20, math.MaxInt, math.MinInt, 1, Try{State: 2, Missed: 2, Worker: math.MaxInt, Lease: math.MinInt, Until: 21}, api.OK},
		{ready, 20, 1, 2, 1 << 40, Try{State: 2, Missed: 2, Worker: 1, Lease: 2, Until: 1<<40 + 20}, api.OK},
		// Tries that may not be.
		{full(SReady), 10, 1, 2, 3, Try{}, api.ErrState},
		{full(SReady), 11, 1, 2, 3, Try{State: 2, Missed: 3, Worker: 1, Lease: 2, Until: 14}, api.OK},
		{Try{State: 1, Missed: 7}, 0, 1, 2, 3, Try{State: 2, Missed: 7, Worker: 1, Lease: 2, Until: 3}, api.OK},
		{Try{State: 1, Missed: -1}, 0, 1, 2, 3, Try{State: 2, Missed: -1, Worker: 1, Lease: 2, Until: 3}, api.OK},
	} {
		if got, e := Take(c.t, c.now, c.worker, c.lease, c.time); got != c.want || e != c.e {
			t.Errorf("%d: %v %v, not %v %v", i, got, e, c.want, c.e)
		}
	}
}

func TestTakeOfOthers(t *testing.T) {
	for _, c := range tries() {
		for _, now := range []int{-5, 0, 24, 25, 30, 1000, 1 << 40} {
			if got, e := Take(c, now, 3, 1, 4); !isReady(c) && (got != Try{} || e != api.ErrState) {
				t.Error(c, now, got, e)
			}
		}
	}
}

func TestHolds(t *testing.T) {
	for i, c := range []struct {
		t                  Try
		now, worker, lease int
		want               bool
	}{
		{held, 29, 7, 9, true},
		{held, 28, 7, 9, true},
		{held, 0, 7, 9, true},
		{held, -1 << 40, 7, 9, true},
		{held, 30, 7, 9, false},
		{held, 31, 7, 9, false},
		{held, 1 << 40, 7, 9, false},
		{held, 29, 6, 9, false},
		{held, 29, 8, 9, false},
		{held, 29, 0, 9, false},
		{held, 29, -7, 9, false},
		{held, 29, 7, 8, false},
		{held, 29, 7, 10, false},
		{held, 29, 7, 0, false},
		{held, 29, 7, -9, false},
		{held, 29, 9, 7, false},
		{held, 29, 9, 9, false},
		{held, 29, 7, 7, false},
		{Try{State: 2, Until: 1}, 0, 0, 0, true},
		{Try{State: 2, Until: 1}, 1, 0, 0, false},
		{Try{State: 2}, -1, 0, 0, true},
		{Try{State: 2}, 0, 0, 0, false},
		{Try{State: 2, Worker: -1, Lease: -2, Until: -3}, -4, -1, -2, true},
		{Try{State: 2, Worker: -1, Lease: -2, Until: -3}, -3, -1, -2, false},
		{full(SHeld), 24, 5, 8, true},
		{full(SHeld), 25, 5, 8, false},
	} {
		if Holds(c.t, c.now, c.worker, c.lease) != c.want {
			t.Errorf("%d: %v", i, c)
		}
	}
	for _, c := range tries() {
		for _, now := range []int{-1 << 40, c.Until - 1, c.Until, c.Until + 1} {
			if Holds(c, now, c.Worker, c.Lease) != (isHeld(c) && now < c.Until) {
				t.Error(c, now)
			}
		}
	}
}

func TestBeat(t *testing.T) {
	for i, c := range []struct {
		t         Try
		now, time int
		want      Try
	}{
		{held, 28, 4, Try{State: 2, Missed: 2, Worker: 7, Lease: 9, Until: 32}},
		{held, 29, 100, Try{State: 2, Missed: 2, Worker: 7, Lease: 9, Until: 129}},
		{held, 10, 4, Try{State: 2, Missed: 2, Worker: 7, Lease: 9, Until: 14}}, // earlier than it was
		{held, 30, 4, Try{State: 2, Missed: 2, Worker: 7, Lease: 9, Until: 34}}, // its time is over, but nothing was settled
		{held, 50, 4, Try{State: 2, Missed: 2, Worker: 7, Lease: 9, Until: 54}},
		{held, 28, 0, Try{State: 2, Missed: 2, Worker: 7, Lease: 9, Until: 28}},
		{held, 28, -1, Try{State: 2, Missed: 2, Worker: 7, Lease: 9, Until: 27}},
		{held, 28, -40, Try{State: 2, Missed: 2, Worker: 7, Lease: 9, Until: -12}},
		{held, 0, 0, Try{State: 2, Missed: 2, Worker: 7, Lease: 9}},
		{held, -8, 4, Try{State: 2, Missed: 2, Worker: 7, Lease: 9, Until: -4}},
		{held, -1 << 40, 1 << 40, Try{State: 2, Missed: 2, Worker: 7, Lease: 9}},
		{Try{State: 2}, 3, 5, Try{State: 2, Until: 8}},
		{full(SHeld), 3, 5, Try{State: 2, Since: 11, Missed: 3, Worker: 5, Lease: 8, Until: 8}},
	} {
		if got := Beat(c.t, c.now, c.time); got != c.want {
			t.Errorf("%d: %v, not %v", i, got, c.want)
		}
	}
	for _, c := range tries() {
		for _, time := range []int{-1, 0, 1, 50} {
			if !isHeld(c) && Beat(c, 20, time) != c {
				t.Error(c, time, Beat(c, 20, time))
			}
		}
	}
}

// P11.3

func TestWrite(t *testing.T) {
	for i, c := range []struct {
		t    Try
		want string
	}{
		{Try{}, "0,0,0,0,0,0,"},
		{waits, "0,0,3,0,0,0,"},
		{ready, "1,20,2,0,0,0,"},
		{held, "2,0,2,7,9,30,"},
		{done, "3,0,4,0,0,0,"},
		{failed, "4,0,6,0,0,0,"},
		{Try{State: 1, Since: 1000000, Missed: 6}, "1,1000000,6,0,0,0,"},
		{Try{State: 2, Worker: 1000000, Lease: 999999, Until: 1000000}, "2,0,0,1000000,999999,1000000,"},
		{full(5), "5,11,3,5,8,25,"},
		{Try{-1, -2, -3, -4, -5, -6}, "-1,-2,-3,-4,-5,-6,"},
		{Try{math.MinInt, math.MaxInt, 7, 1000001, 0, 1}, "-9223372036854775808,9223372036854775807,7,1000001,0,1,"},
	} {
		var w codec.Writer
		Write(&w, c.t)
		if w.String() != c.want {
			t.Errorf("%d: %q, not %q", i, w.String(), c.want)
		}
	}
}

func TestWriteBehindWhatThereIs(t *testing.T) {
	var w codec.Writer
	w.Text("ab")
	Write(&w, ready)
	w.Int(5)
	was := w
	Write(&w, held)
	if w.String() != "2,ab1,20,2,0,0,0,5,2,0,2,7,9,30," || was.String() != "2,ab1,20,2,0,0,0,5," {
		t.Errorf("%q %q", w.String(), was.String())
	}
}

func TestWriterThatIsNone(t *testing.T) {
	for _, c := range tries() {
		Write(nil, c) // does nothing
	}
}

func TestRead(t *testing.T) {
	for i, c := range []struct {
		s    string
		want Try
	}{
		{"0,0,0,0,0,0,", Try{}},
		{"0,0,3,0,0,0,", waits},
		{"1,20,2,0,0,0,", ready},
		{"2,0,2,7,9,30,", held},
		{"3,0,4,0,0,0,", done},
		{"4,0,6,0,0,0,", failed},
		{"1,1000000,6,0,0,0,", Try{State: 1, Since: 1000000, Missed: 6}},
		{"2,0,6,1000000,1000000,1000000,", Try{State: 2, Missed: 6, Worker: 1000000, Lease: 1000000, Until: 1000000}},
		{"2,0,0,0,0,0,", Try{State: 2}},
		{"1,0,0,0,0,0,", Try{State: 1}},
	} {
		r := codec.NewReader(c.s)
		if got := Read(r); got != c.want || !r.Ok() || !r.Done() {
			t.Errorf("%d: %v, not %v; %v %v", i, got, c.want, r.Ok(), r.Done())
		}
	}
}

func TestReadGoesOn(t *testing.T) {
	r := codec.NewReader("7,2,0,2,7,9,30,2,ab1,20,2,0,0,0,0,0,0,0,0,0,9,")
	if r.Int(0, 9) != 7 || Read(r) != held || r.Text(2) != "ab" || Read(r) != ready || Read(r) != (Try{}) || !r.Ok() || r.Done() {
		t.Error("read on")
	}
	if r.Int(0, 9) != 9 || !r.Done() {
		t.Error("behind all")
	}
	// Nothing is left.
	if Read(r) != (Try{}) || r.Ok() {
		t.Error("behind the end")
	}
	for _, behind := range []string{"x", ",", " ", "-", "00,", "1000001,", "\x00"} {
		r := codec.NewReader("1,20,2,0,0,0," + behind)
		if Read(r) != ready || !r.Ok() || r.Done() {
			t.Errorf("%q", behind)
		}
	}
}

// stopped asks that a text is no try that may be, and that its reader has stopped.
func stopped(t *testing.T, s string) {
	t.Helper()
	r := codec.NewReader(s)
	if got := Read(r); got != (Try{}) || r.Ok() || r.Done() {
		t.Errorf("%q: %v %v %v", s, got, r.Ok(), r.Done())
	}
	for range 2 {
		if got := Read(r); got != (Try{}) || r.Int(math.MinInt, math.MaxInt) != 0 || r.Text(9) != "" || r.Ok() {
			t.Errorf("%q: read on: %v", s, got)
		}
	}
}

// What layer 6 refuses in the place of any of the six.
func TestReadOfWhatIsNoNumber(t *testing.T) {
	for _, bad := range []string{
		",", "x,", "-,", "+,", "00,", "01,", "000,", "-0,", "+0,", "+1,", "-1,", " 0,", "0 ,", " ,", "0x0,", "0.0,", "1_0,", "0;", "0", "٠,", "\x00,", "0\n,", "a",
		"9223372036854775808,", "18446744073709551616,", "18446744073709551617,", "-18446744073709551616,", "36893488147419103232,", strings.Repeat("9", 500) + ",", strings.Repeat("0", 500) + ",",
	} {
		for at := range 6 {
			for _, six := range [][]string{{"2,", "0,", "0,", "0,", "0,", "0,"}, {"2,", "0,", "1,", "7,", "9,", "30,"}} {
				six[at] = bad
				text := strings.Join(six, "")
				stopped(t, text)
				if strings.HasSuffix(bad, ",") {
					stopped(t, text+"1,2,3,4,5,6,")
				}
			}
		}
	}
}

func TestReadOfNoTry(t *testing.T) {
	for _, s := range []string{
		"-1,0,0,0,0,0,", "5,0,0,0,0,0,", "6,0,0,0,0,0,",
		"1,-1,0,0,0,0,", "1,1000001,0,0,0,0,",
		"0,0,-1,0,0,0,", "0,0,7,0,0,0,", "1,0,7,0,0,0,", "2,0,7,1,1,1,", "3,0,7,0,0,0,", "4,0,7,0,0,0,", "4,0,-1,0,0,0,",
		"2,0,0,-1,1,1,", "2,0,0,1000001,1,1,", "2,0,0,1,-1,1,", "2,0,0,1,1000001,1,", "2,0,0,1,1,-1,", "2,0,0,1,1,1000001,",
		"0,1,0,0,0,0,", "0,5,0,0,0,0,", "2,1,0,1,1,1,", "3,1,0,0,0,0,", "4,1,0,0,0,0,", "4,1000000,0,0,0,0,",
		"0,0,0,1,0,0,", "1,0,0,1,0,0,", "3,0,0,1,0,0,", "4,0,0,1,0,0,", "1,5,0,1,0,0,",
		"0,0,0,0,1,0,", "1,0,0,0,1,0,", "3,0,0,0,1,0,", "4,0,0,0,1,0,",
		"0,0,0,0,0,1,", "1,0,0,0,0,1,", "3,0,0,0,0,1,", "4,0,0,0,0,1,", "1,5,0,0,0,1000000,",
	} {
		for _, behind := range []string{"", "0,", "x", "1,20,2,0,0,0,"} {
			stopped(t, s+behind)
		}
	}
}

func TestReadOfFewer(t *testing.T) {
	for _, s := range []string{"2,0,2,7,9,30,", "1,20,2,0,0,0,", "0,0,0,0,0,0,", "4,0,6,0,0,0,"} {
		for size := range len(s) {
			stopped(t, s[:size])
		}
	}
	// More than six: the seventh is left.
	r := codec.NewReader("0,0,0,0,0,0,0,")
	if Read(r) != (Try{}) || !r.Ok() || r.Done() || r.Int(0, 0) != 0 || !r.Done() {
		t.Error("a seventh")
	}
}

func TestReadersThatHaveStopped(t *testing.T) {
	r := codec.NewReader("1,20,2,0,0,0,")
	r.Int(2, 1)
	for range 2 {
		if got := Read(r); got != (Try{}) || r.Ok() || r.Done() {
			t.Error(got)
		}
	}
	for range 2 {
		if got := Read(nil); got != (Try{}) {
			t.Error(got)
		}
	}
}

// P11.4

func TestSettledTwice(t *testing.T) {
	for _, c := range []Try{{}, waits, ready, held, done, failed, {State: SHeld, Until: 32}, {State: SHeld, Missed: 5, Until: 28}} {
		for first := 25; first < 36; first++ {
			for second := first; second < 36; second++ {
				for retry := -1; retry <= api.MaxRetry; retry++ {
					if got, want := Settle(Settle(c, first, retry), second, retry), Settle(c, second, retry); got != want {
						t.Errorf("%v at %d and %d: %v, not %v", c, first, second, got, want)
					}
				}
			}
		}
	}
}

func TestNobodyLosesIt(t *testing.T) {
	for now := 20; now < 30; now++ {
		if !Holds(held, now, 7, 9) || Settle(held, now, 0) != held || !Holds(Settle(held, now, 0), now, 7, 9) {
			t.Error(now)
		}
	}
	if Holds(Settle(held, 30, 5), 30, 7, 9) || Settle(held, 30, 5) == held {
		t.Error("over")
	}
}

// What was handed in stays as it is.
func TestHandedIn(t *testing.T) {
	for _, c := range tries() {
		own := c
		var w codec.Writer
		Right(own)
		Open(own, 40)
		Miss(own, 40, 1)
		Settle(own, 40, 1)
		Take(own, 40, 1, 2, 3)
		Holds(own, 40, 1, 2)
		Beat(own, 40, 1)
		Done(own)
		Write(&w, own)
		if own != c {
			t.Error(c, own)
		}
	}
}
