package order

import (
	"math"
	"reflect"
	"slices"
	"strings"
	"testing"

	"lockage/api"
	"lockage/manifest"
)

// pipe is a pipeline of tasks that come behind these.
func pipe(after ...[]int) api.Pipeline {
	p := api.Pipeline{Name: "p"}
	for i, places := range after {
		p.Tasks = append(p.Tasks, api.Task{Name: string([]byte{byte('a' + i)}), After: places, Time: 5})
	}
	return p
}

// row is numbers from one on up to another one, or down.
func row(from, to int) []int {
	list := []int{from}
	for from < to {
		from++
		list = append(list, from)
	}
	for from > to {
		from--
		list = append(list, from)
	}
	return list
}

// without is all places of n but one.
func without(i, n int) []int {
	var list []int
	for place := range n {
		if place != i {
			list = append(list, place)
		}
	}
	return list
}

// ordered asks for an order, and that no task comes behind itself.
func ordered(t *testing.T, p api.Pipeline, want ...int) {
	t.Helper()
	if got, ok := Order(p); !ok || !slices.Equal(got, want) {
		t.Errorf("%v: Order %v %v, not %v", afters(p), got, ok, want)
	}
	if got := Round(p); got != -1 {
		t.Errorf("%v: Round %d", afters(p), got)
	}
	asks(t, p)
}

// round asks that there is no order, as tasks come behind themselves, and of which the least place is told.
func round(t *testing.T, p api.Pipeline, want int) {
	t.Helper()
	if got, ok := Order(p); ok || got != nil {
		t.Errorf("%v: Order %v %v", afters(p), got, ok)
	}
	if got := Round(p); got != want {
		t.Errorf("%v: Round %d, not %d", afters(p), got, want)
	}
	if got := Long(p); got != 0 {
		t.Errorf("%v: Long %d", afters(p), got)
	}
	asks(t, p)
}

// behind asks what is right behind each place.
func behind(t *testing.T, p api.Pipeline, want ...[]int) {
	t.Helper()
	for i := range want {
		if got := Behind(p, i); !slices.Equal(got, want[i]) {
			t.Errorf("%v: Behind %d %v, not %v", afters(p), i, got, want[i])
		}
	}
}

// aheads asks what is ahead of each place.
func aheads(t *testing.T, p api.Pipeline, want ...[]int) {
	t.Helper()
	for i := range want {
		if got := Ahead(p, i); !slices.Equal(got, want[i]) {
			t.Errorf("%v: Ahead %d %v, not %v", afters(p), i, got, want[i])
		}
	}
}

// begins asks which tasks are ready.
func begins(t *testing.T, p api.Pipeline, done []bool, want ...int) {
	t.Helper()
	if got := Ready(p, done); !slices.Equal(got, want) {
		t.Errorf("%v: Ready %v %v, not %v", afters(p), done, got, want)
	}
	asksReady(t, p, done)
}

func long(t *testing.T, p api.Pipeline, want int) {
	t.Helper()
	if got := Long(p); got != want {
		t.Errorf("%v: Long %d, not %d", afters(p), got, want)
	}
	asks(t, p)
}

func TestExample(t *testing.T) {
	p := pipe(nil, []int{0}, []int{0, 1})
	ordered(t, p, 0, 1, 2)
	long(t, p, 3)
	begins(t, p, []bool{true}, 1)
}

// P9.1 and P9.2: pipelines that may not be

// asksNothing asks that all calls answer as of a pipeline that may not be.
func asksNothing(t *testing.T, told string, p api.Pipeline) {
	t.Helper()
	if manifest.Right(p) {
		t.Fatal(told, "may be")
	}
	if list, ok := Order(p); list != nil || ok {
		t.Error(told, "Order", list, ok)
	}
	if round, long := Round(p), Long(p); round != -1 || long != 0 {
		t.Error(told, "Round, Long", round, long)
	}
	for _, i := range append(noPlaces(len(p.Tasks)), row(0, 9)...) {
		if behind, ahead := Behind(p, i), Ahead(p, i); len(behind) != 0 || len(ahead) != 0 {
			t.Error(told, i, "Behind, Ahead", behind, ahead)
		}
	}
	for n := range 12 {
		for _, done := range [][]bool{bits(0, n), bits(-1, n), bits(0x555, n), bits(0xaaa, n)} {
			if list := Ready(p, done); len(list) != 0 {
				t.Error(told, done, "Ready", list)
			}
		}
	}
}

// sound is pipelines that may be, each with a task at 0, a gate at 2 and a Retry at 3; in all but the first one tasks come behind themselves.
func sound() []api.Pipeline {
	list := []api.Pipeline{pipe(nil, []int{0}, []int{1, 0}, []int{2}), pipe([]int{0}, nil, []int{1}, []int{2, 0}), pipe([]int{1}, []int{2}, []int{3}, []int{0, 1})}
	for _, p := range list {
		p.Tasks[2].Need, p.Tasks[2].To = 2, api.Label{Level: 3, Set: 5}
		p.Tasks[3].Retry = 2
	}
	return list
}

// asksChanged asks that sound pipelines that were changed are none.
func asksChanged(t *testing.T, told string, changed func(p *api.Pipeline)) {
	t.Helper()
	for _, p := range sound() {
		asks(t, p)
		changed(&p)
		asksNothing(t, told, p)
	}
}

func TestNoPipeline(t *testing.T) {
	asksNothing(t, "nothing", api.Pipeline{})
	asksNothing(t, "no name", api.Pipeline{Tasks: pipe(nil).Tasks})
	for _, name := range []string{"", "P", "pipelines", "a b", "a,b", "p1", " p", "p\n", "é", "\xff"} {
		asksChanged(t, "the name", func(p *api.Pipeline) { p.Name = name })
		for i := range 4 {
			asksChanged(t, "a task's name", func(p *api.Pipeline) { p.Tasks[i].Name = name })
		}
	}
	for i := range 4 {
		for j := range i {
			asksChanged(t, "two of one name", func(p *api.Pipeline) { p.Tasks[i].Name = p.Tasks[j].Name })
		}
	}
}

func TestNoneOrTooManyTasks(t *testing.T) {
	asksNothing(t, "no tasks", api.Pipeline{Name: "p"})
	asksNothing(t, "no tasks", api.Pipeline{Name: "p", Tasks: []api.Task{}})
	for n := 9; n < 30; n++ {
		asksNothing(t, "none behind another", pipe(make([][]int, n)...))
		rowed, rounded := make([][]int, n), make([][]int, n)
		for i := range n {
			rounded[i] = []int{(i + 1) % n}
			if i > 0 {
				rowed[i] = []int{i - 1}
			}
		}
		asksNothing(t, "a row", pipe(rowed...))
		asksNothing(t, "a round", pipe(rounded...))
	}
}

func TestNoAfter(t *testing.T) {
	for i := range 4 {
		for _, place := range noPlaces(4) {
			asksChanged(t, "no place", func(p *api.Pipeline) { p.Tasks[i].After = []int{place} })
			asksChanged(t, "no place behind others", func(p *api.Pipeline) { p.Tasks[i].After = []int{1, 0, place} })
			asksChanged(t, "no place ahead of others", func(p *api.Pipeline) { p.Tasks[i].After = []int{place, 0} })
		}
		for place := range 4 {
			asksChanged(t, "twice", func(p *api.Pipeline) { p.Tasks[i].After = []int{place, place} })
		}
		asksChanged(t, "twice with another between", func(p *api.Pipeline) { p.Tasks[i].After = []int{0, 1, 0} })
		asksChanged(t, "all, and one twice", func(p *api.Pipeline) { p.Tasks[i].After = []int{3, 2, 1, 0, 3} })
	}
	for n := 1; n <= 8; n++ {
		for i := range n {
			after := make([][]int, n)
			after[i] = []int{n}
			asksNothing(t, "the place behind the last one", pipe(after...))
		}
	}
}

func TestNoNumbers(t *testing.T) {
	numbers := []int{math.MinInt, -1 << 32, -256, -1, 101, 256, 1 << 32, 1<<32 + 1, math.MaxInt}
	for i := range 4 {
		for _, n := range append(numbers, 0) {
			asksChanged(t, "Time", func(p *api.Pipeline) { p.Tasks[i].Time = n })
		}
		for _, n := range append(numbers, 6) {
			asksChanged(t, "Retry", func(p *api.Pipeline) { p.Tasks[i].Retry = n })
		}
		for _, n := range append(numbers, 5) {
			asksChanged(t, "Need", func(p *api.Pipeline) { p.Tasks[i].Need = n })
		}
		for _, n := range append(numbers, 8) {
			asksChanged(t, "Level", func(p *api.Pipeline) { p.Tasks[i].To.Level = n })
		}
	}
	for retry := 1; retry <= 5; retry++ {
		asksChanged(t, "a gate's Retry", func(p *api.Pipeline) { p.Tasks[2].Retry = retry })
	}
	for _, i := range []int{0, 1, 3} {
		asksChanged(t, "a task's Level", func(p *api.Pipeline) { p.Tasks[i].To.Level = 1 + i })
		asksChanged(t, "a task's Set", func(p *api.Pipeline) { p.Tasks[i].To.Set = 1 << i })
	}
	asksChanged(t, "a gate without Need", func(p *api.Pipeline) { p.Tasks[2].Need = 0 })
	asksChanged(t, "a Retry with Need", func(p *api.Pipeline) { p.Tasks[3].Need = 1 })
}

// Whatever is handed in, an answer is there at once.
func TestMuch(t *testing.T) {
	const much = 1 << 20
	up := row(0, much-1)
	asksNothing(t, "a long After", pipe(up, nil))
	asksNothing(t, "a long After of one", pipe(make([]int, much)))
	asksNothing(t, "many tasks", api.Pipeline{Name: "p", Tasks: make([]api.Task, much)})
	asksNothing(t, "a long name", api.Pipeline{Name: strings.Repeat("p", much), Tasks: pipe(nil).Tasks})
	p := pipe(nil, []int{0})
	begins(t, p, bits(0, much), 0)
	begins(t, p, append([]bool{true}, bits(0, much)...), 1)
	begins(t, p, append([]bool{true, true}, bits(-1, much)...))
}

// P9.1: Order

func TestNoneBehindAnother(t *testing.T) {
	for n := 1; n <= 8; n++ {
		p := pipe(make([][]int, n)...)
		ordered(t, p, row(0, n-1)...)
		long(t, p, 1)
		for i := range n {
			if behind, ahead := Behind(p, i), Ahead(p, i); len(behind) != 0 || len(ahead) != 0 {
				t.Error(n, i, behind, ahead)
			}
		}
		asksNoPlaces(t, p)
		begins(t, p, nil, row(0, n-1)...)
		for i := range p.Tasks {
			p.Tasks[i].After = []int{}
		}
		ordered(t, p, row(0, n-1)...)
	}
}

func TestAllBehindOne(t *testing.T) {
	for n := 2; n <= 8; n++ {
		for i := range n {
			others := without(i, n)
			after := make([][]int, n)
			for _, place := range others {
				after[place] = []int{i}
			}
			p := pipe(after...)
			ordered(t, p, append([]int{i}, others...)...)
			long(t, p, 2)
			behinds := make([][]int, n)
			behinds[i] = others
			behind(t, p, behinds...)
			aheads(t, p, after...)
			asksNoPlaces(t, p)
			begins(t, p, nil, i)
			begins(t, p, append(make([]bool, i), true), others...)
		}
	}
}

func TestOneBehindAll(t *testing.T) {
	for n := 2; n <= 8; n++ {
		for i := range n {
			others := without(i, n)
			after := make([][]int, n)
			after[i] = slices.Clone(others)
			slices.Reverse(after[i])
			p := pipe(after...)
			ordered(t, p, append(slices.Clone(others), i)...)
			long(t, p, 2)
			for _, place := range others {
				if got := Behind(p, place); !slices.Equal(got, []int{i}) {
					t.Error(n, i, place, got)
				}
			}
			if got := Ahead(p, i); !slices.Equal(got, others) {
				t.Error(n, i, got)
			}
			begins(t, p, nil, others...)
			done := bits(-1, n)
			done[i] = false
			begins(t, p, done, i)
		}
	}
}

func TestRows(t *testing.T) {
	for n := 2; n <= 8; n++ {
		up, down := make([][]int, n), make([][]int, n)
		for i := 1; i < n; i++ {
			up[i], down[i-1] = []int{i - 1}, []int{i}
		}
		p, q := pipe(up...), pipe(down...)
		ordered(t, p, row(0, n-1)...)
		ordered(t, q, row(n-1, 0)...)
		long(t, p, n)
		long(t, q, n)
		for i := range n {
			if got := Ahead(p, i); len(got) != i || i > 0 && !slices.Equal(got, row(0, i-1)) {
				t.Error(n, i, got)
			}
			if got := Ahead(q, i); len(got) != n-1-i || i < n-1 && !slices.Equal(got, row(i+1, n-1)) {
				t.Error(n, i, got)
			}
			if i > 0 {
				begins(t, p, bits(1<<i-1, i), i)
				begins(t, q, bits(-1<<i, n), i-1)
			}
		}
		asksNoPlaces(t, p)
		asksNoPlaces(t, q)
		begins(t, p, nil, 0)
		begins(t, q, nil, n-1)
	}
}

// Each behind all that stand ahead of it in the list, and each behind all that follow.
func TestEachBehindAll(t *testing.T) {
	for n := 2; n <= 8; n++ {
		up, down := make([][]int, n), make([][]int, n)
		for i := range n {
			if i > 0 {
				up[i] = row(i-1, 0)
				down[i-1] = row(i, n-1)
			}
		}
		ordered(t, pipe(up...), row(0, n-1)...)
		ordered(t, pipe(down...), row(n-1, 0)...)
		long(t, pipe(up...), n)
		long(t, pipe(down...), n)
		for i := range n - 1 {
			if got := Behind(pipe(up...), i); !slices.Equal(got, row(i+1, n-1)) {
				t.Error(n, i, got)
			}
			if got := Behind(pipe(down...), i+1); !slices.Equal(got, row(0, i)) {
				t.Error(n, i, got)
			}
		}
	}
}

func TestTheLeastPlaceFirst(t *testing.T) {
	for _, c := range []struct {
		after [][]int
		want  []int
	}{
		{[][]int{{2}, nil, nil}, []int{1, 2, 0}},
		{[][]int{nil, {2}, nil}, []int{0, 2, 1}},
		// One that becomes free behind a greater one is next, ahead of those that were free all the time.
		{[][]int{{1}, nil, nil, nil}, []int{1, 0, 2, 3}},
		{[][]int{{2}, {2}, nil, nil}, []int{2, 0, 1, 3}},
		{[][]int{{3}, nil, nil, nil, nil}, []int{1, 2, 3, 0, 4}},
		{[][]int{{3}, {0}, nil, nil, nil}, []int{2, 3, 0, 1, 4}},
		{[][]int{{1}, {2}, nil, nil}, []int{2, 1, 0, 3}},
		{[][]int{nil, {3}, {0}, nil, nil}, []int{0, 2, 3, 1, 4}},
		{[][]int{nil, {4}, {1}, nil, {0}, {3}}, []int{0, 3, 4, 1, 2, 5}},
		// All free at once, and then all that are behind them.
		{[][]int{{7}, {6}, {5}, {4}, nil, nil, nil, nil}, []int{4, 3, 5, 2, 6, 1, 7, 0}},
		{[][]int{{4}, {4}, {4}, {4}, nil, nil, nil, nil}, []int{4, 0, 1, 2, 3, 5, 6, 7}},
		{[][]int{{5, 7}, {6, 5}, {7}, nil, nil, {3}, {4}, nil}, []int{3, 4, 5, 6, 1, 7, 0, 2}},
		{[][]int{nil, nil, {1, 0}, {7}, nil, {2, 6}, {4}, nil}, []int{0, 1, 2, 4, 6, 5, 7, 3}},
		{[][]int{{6}, nil, {1}, {5}, {2}, {4}, {3}, {0}}, []int{1, 2, 4, 5, 3, 6, 0, 7}},
	} {
		ordered(t, pipe(c.after...), c.want...)
		for _, list := range c.after {
			slices.Reverse(list)
		}
		ordered(t, pipe(c.after...), c.want...)
	}
}

// P9.1: Round

func TestBehindItself(t *testing.T) {
	for n := 1; n <= 8; n++ {
		for i := range n {
			after := make([][]int, n)
			after[i] = []int{i}
			round(t, pipe(after...), i)
			after[i] = row(n-1, 0)
			round(t, pipe(after...), i)
			// By others: all from i on, in a round up, and in one down.
			if i == n-1 {
				continue
			}
			up, down := make([][]int, n), make([][]int, n)
			for place := i; place < n; place++ {
				up[place], down[place] = []int{place - 1}, []int{place + 1}
			}
			up[i], down[n-1] = []int{n - 1}, []int{i}
			round(t, pipe(up...), i)
			round(t, pipe(down...), i)
			aheads(t, pipe(up...), append(make([][]int, i), row(i, n-1), row(i, n-1))...)
			aheads(t, pipe(down...), append(make([][]int, i), row(i, n-1), row(i, n-1))...)
			// And in one of all up to there.
			behind(t, pipe(up...), append(make([][]int, i), []int{i + 1})...)
			asksNoPlaces(t, pipe(up...))
			first := make([][]int, n)
			for place := range i + 1 {
				first[place] = []int{(place + i) % (i + 1)}
			}
			round(t, pipe(first...), 0)
		}
	}
}

func TestRounds(t *testing.T) {
	for _, c := range []struct {
		after [][]int
		want  int
	}{
		{[][]int{{1}, {0}}, 0},
		{[][]int{nil, {2}, {1}}, 1},
		{[][]int{{2}, nil, {0}}, 0},
		{[][]int{nil, nil, {3}, {2}}, 2},
		{[][]int{{0, 1}, nil}, 0},
		// Some are ahead of the round, or beside it.
		{[][]int{{1, 2}, {0}, nil}, 0},
		{[][]int{nil, {0, 2}, {1}}, 1},
		{[][]int{nil, {0}, {1}, {2, 4}, {5}, {3}}, 3},
		{[][]int{nil, nil, nil, nil, nil, nil, {7}, {6}}, 6},
		{[][]int{nil, {0}, {1}, {2}, {3}, {4}, {5}, {6, 7}}, 7},
		{[][]int{{1}, {0}, nil, {2}, {3}, {4}, {5}, {6}}, 0},
		{[][]int{{7}, nil, nil, nil, nil, nil, nil, {0}}, 0},
		{[][]int{nil, {7}, nil, {2}, nil, nil, nil, {1, 3}}, 1},
		// Some come behind the round, and aren't in it.
		{[][]int{{1}, {1}}, 1},
		{[][]int{{1}, {2}, {1}}, 1},
		{[][]int{{2}, {2}, {2}}, 2},
		{[][]int{{1}, {2}, {3}, {3}}, 3},
		{[][]int{{1}, {2}, {3}, {2}}, 2},
		{[][]int{{3, 1}, nil, {0}, {4}, {5}, {3}, {0}}, 3},
		{[][]int{{1}, {2}, {3}, {4}, {5}, {6}, {7}, {7}}, 7},
		{[][]int{{1}, {2}, {3}, {4}, {5}, {6}, {7}, {6}}, 6},
		{[][]int{{7}, {7}, {7}, {7}, {7}, {7}, {7}, {7, 0}}, 0},
		{[][]int{{7}, {7}, {7}, {7}, {7}, {7}, {7}, {7, 3}}, 3},
		// Between two rounds one is in none.
		{[][]int{{0, 1}, {2}, {3}, {2}}, 0},
		{[][]int{{1}, {2}, {2, 3}, {3}}, 2},
		{[][]int{{5}, {4}, {1}, {2}, {4, 3}, nil, {6}}, 1},
		// Two rounds, one in the other, or with a task in common.
		{[][]int{nil, {3}, {4}, {1}, {2}}, 1},
		{[][]int{nil, {2}, {1, 3}, {2}}, 1},
		{[][]int{nil, {4}, {4}, {2}, {3, 1}}, 1},
		{[][]int{{1}, {2, 0}, {3, 0}, {0}}, 0},
	} {
		round(t, pipe(c.after...), c.want)
		for _, list := range c.after {
			slices.Reverse(list)
		}
		round(t, pipe(c.after...), c.want)
	}
}

// P9.1: Behind and Ahead

func TestBehindAndAhead(t *testing.T) {
	for _, c := range []struct{ after, behind, ahead [][]int }{
		{[][]int{nil}, [][]int{nil}, [][]int{nil}},
		{[][]int{{1}, nil}, [][]int{nil, {0}}, [][]int{{1}, nil}},
		// By several ways.
		{[][]int{nil, {0}, {0}, {2, 1}}, [][]int{{1, 2}, {3}, {3}, nil}, [][]int{nil, {0}, {0}, {0, 1, 2}}},
		{[][]int{nil, {0}, {1, 0}, {0, 2, 1}}, [][]int{{1, 2, 3}, {2, 3}, {3}, nil}, [][]int{nil, {0}, {0, 1}, {0, 1, 2}}},
		{[][]int{{1, 2}, {3}, {3}, {5, 4}, nil, {4}}, [][]int{nil, {0}, {0}, {1, 2}, {3, 5}, {3}}, [][]int{{1, 2, 3, 4, 5}, {3, 4, 5}, {3, 4, 5}, {4, 5}, nil, {4}}},
		{[][]int{{5}, nil, {7, 5}, {2}, {3, 0}, {6, 1}, nil, {6}}, [][]int{{4}, {5}, {3}, {4}, nil, {0, 2}, {5, 7}, {2}}, [][]int{{1, 5, 6}, nil, {1, 5, 6, 7}, {1, 2, 5, 6, 7}, {0, 1, 2, 3, 5, 6, 7}, {1, 6}, nil, {6}}},
		// In a round one is ahead of itself; what comes behind a round isn't.
		{[][]int{{0}}, [][]int{{0}}, [][]int{{0}}},
		{[][]int{{1}, {0}}, [][]int{{1}, {0}}, [][]int{{0, 1}, {0, 1}}},
		{[][]int{{0}, {0}}, [][]int{{0, 1}, nil}, [][]int{{0}, {0}}},
		{[][]int{{2}, {0}, {1}}, [][]int{{1}, {2}, {0}}, [][]int{{0, 1, 2}, {0, 1, 2}, {0, 1, 2}}},
		{[][]int{nil, {0, 3}, {1}, {2}, {2}}, [][]int{{1}, {2}, {3, 4}, {1}, nil}, [][]int{nil, {0, 1, 2, 3}, {0, 1, 2, 3}, {0, 1, 2, 3}, {0, 1, 2, 3}}},
		{[][]int{{1}, {2}, {3}, {2, 4}, {5}, nil}, [][]int{nil, {0}, {1, 3}, {2}, {3}, {4}}, [][]int{{1, 2, 3, 4, 5}, {2, 3, 4, 5}, {2, 3, 4, 5}, {2, 3, 4, 5}, {5}, nil}},
		{[][]int{{3, 2, 1, 0}, {0, 1, 2, 3}, {2, 0, 3, 1}, {1, 3, 0, 2}}, [][]int{{0, 1, 2, 3}, {0, 1, 2, 3}, {0, 1, 2, 3}, {0, 1, 2, 3}}, [][]int{{0, 1, 2, 3}, {0, 1, 2, 3}, {0, 1, 2, 3}, {0, 1, 2, 3}}},
	} {
		p := pipe(c.after...)
		behind(t, p, c.behind...)
		aheads(t, p, c.ahead...)
		asks(t, p)
		asksNoPlaces(t, p)
	}
}

// A gate stands in the order as a task does, whatever its numbers.
func TestGates(t *testing.T) {
	p, err := manifest.Parse("pipe p\ngate g after c,b to 1:0001 need 2 time 9\ntask a after g\ntask b retry 2\ntask c after b\ngate h after a to 0:0000 need 1")
	if err != nil {
		t.Fatal(err)
	}
	ordered(t, p, 2, 3, 0, 1, 4)
	long(t, p, 5)
	behind(t, p, []int{1}, []int{4}, []int{0, 3}, []int{0}, nil)
	aheads(t, p, []int{2, 3}, []int{0, 2, 3}, nil, []int{2}, []int{0, 1, 2, 3})
	begins(t, p, nil, 2)
	begins(t, p, []bool{false, false, true, true}, 0)
	begins(t, p, []bool{true, false, true, true}, 1)
	begins(t, p, []bool{true, true, true, true, false}, 4)
	p.Tasks[2].After = []int{0}
	round(t, p, 0)
	p.Tasks[2].After, p.Tasks[4].After = nil, []int{4}
	round(t, p, 4)
	for i := range p.Tasks {
		p.Tasks[i] = api.Task{Name: p.Tasks[i].Name, After: []int{4}, Time: 1, Need: 4, To: api.Label{Level: 7, Set: 1}}
	}
	p.Tasks[4].After = nil
	ordered(t, p, 4, 0, 1, 2, 3)
	begins(t, p, []bool{false, true, false, false, true}, 0, 2, 3)
}

// What is handed in, and what is answered

// roomy is lists with spare room, and what is in it.
func roomy() (api.Pipeline, []bool) {
	p := pipe([]int{3, 1}, []int{3}, []int{0, 3, 1}, nil)
	for i := range p.Tasks {
		after := append(make([]int, 0, 8), p.Tasks[i].After...)
		copy(after[len(after):8], []int{7, 6, 5, 4, 3, 2, 1, 0})
		p.Tasks[i].After = after
	}
	tasks := append(make([]api.Task, 0, 8), p.Tasks...)
	for i := len(tasks); i < 8; i++ {
		tasks[:8][i] = api.Task{Name: "spare", After: []int{i, 0}, Time: i}
	}
	p.Tasks = tasks
	done := append(make([]bool, 0, 8), false, false, false, true)
	copy(done[4:8], []bool{true, false, true, false})
	return p, done
}

// asksAll asks all calls.
func asksAll(p api.Pipeline, done []bool) [][]int {
	list, _ := Order(p)
	all := [][]int{list, Ready(p, done), {Round(p), Long(p)}}
	for i := range p.Tasks {
		all = append(all, Behind(p, i), Ahead(p, i))
	}
	return all
}

func TestWhatIsHandedInStaysAsItIs(t *testing.T) {
	p, done := roomy()
	asksAll(p, done)
	q, same := roomy()
	for i := range q.Tasks[:8] {
		after, want := p.Tasks[:8][i].After, q.Tasks[:8][i].After
		if !reflect.DeepEqual(p.Tasks[:8][i], q.Tasks[:8][i]) || !slices.Equal(after[:cap(after)], want[:cap(want)]) {
			t.Errorf("%+v, not %+v", p.Tasks[:8][i], q.Tasks[:8][i])
		}
	}
	if p.Name != q.Name || len(p.Tasks) != len(q.Tasks) || !slices.Equal(done[:8], same[:8]) {
		t.Errorf("%+v, %v", p, done[:8])
	}
}

// What is written into one answer, its spare room too, moves no other one, nor what was handed in, nor a later answer.
func TestAnswersAreNewMemory(t *testing.T) {
	p, done := roomy()
	want := [][]int{{3, 1, 0, 2}, {1}, {-1, 4}, {2}, {1, 3}, {0, 2}, {3}, nil, {0, 1, 3}, {0, 1, 2}, nil}
	got := asksAll(p, done)
	for i := range got {
		if !slices.Equal(got[i], want[i]) {
			t.Error(i, got[i], want[i])
		}
		all := got[i][:cap(got[i])]
		for place := range all {
			all[place] = 99
		}
		if again := asksAll(p, done); !reflect.DeepEqual(filled(again), filled(want)) {
			t.Error(i, again)
		}
	}
	q, _ := roomy()
	if !manifest.Same(p, q) {
		t.Errorf("%+v", p)
	}
}

// What is written into what was handed in moves no answer.
func TestWhatIsHandedInIsNotKept(t *testing.T) {
	p, done := roomy()
	want := filled(asksAll(p, done))
	got := asksAll(p, done)
	for i := range p.Tasks {
		for place := range p.Tasks[i].After {
			p.Tasks[i].After[place] = 9
		}
	}
	clear(done)
	if !reflect.DeepEqual(filled(got), want) {
		t.Error(got)
	}
}

// filled is lists of which none is nil.
func filled(lists [][]int) [][]int {
	var all [][]int
	for _, list := range lists {
		all = append(all, append([]int{}, list...))
	}
	return all
}

// P9.2: Ready

func TestReady(t *testing.T) {
	yes, no := true, false
	forked := pipe(nil, []int{0}, []int{0}, []int{2, 1})
	turned := pipe([]int{2, 1}, []int{3}, []int{3}, nil)
	rounded := pipe([]int{1}, []int{0}, nil, []int{2}, []int{4}, []int{4, 2})
	for _, c := range []struct {
		p    api.Pipeline
		done []bool
		want []int
	}{
		// None done, and done empty, nil, shorter, as long, and longer.
		{forked, nil, []int{0}},
		{forked, []bool{}, []int{0}},
		{forked, []bool{no}, []int{0}},
		{forked, []bool{no, no, no, no}, []int{0}},
		{forked, []bool{no, no, no, no, yes, yes, yes, yes, yes}, []int{0}},
		{turned, nil, []int{3}},
		{turned, []bool{no, no, no, no, no}, []int{3}},
		// Some done.
		{forked, []bool{yes}, []int{1, 2}},
		{forked, []bool{yes, no, no, no}, []int{1, 2}},
		{forked, []bool{yes, no, no, no, yes, no}, []int{1, 2}},
		{forked, []bool{yes, yes}, []int{2}},
		{forked, []bool{yes, no, yes}, []int{1}},
		{forked, []bool{yes, yes, yes}, []int{3}},
		{forked, []bool{yes, yes, yes, no}, []int{3}},
		{turned, []bool{no, no, no, yes}, []int{1, 2}},
		{turned, []bool{no, yes, no, yes}, []int{2}},
		{turned, []bool{no, yes, yes, yes}, []int{0}},
		{turned, []bool{no, no, no, yes, yes}, []int{1, 2}},
		// All done.
		{forked, []bool{yes, yes, yes, yes}, nil},
		{forked, []bool{yes, yes, yes, yes, no}, nil},
		{forked, []bool{yes, yes, yes, yes, yes, yes}, nil},
		{turned, []bool{yes, yes, yes, yes}, nil},
		// One is done though what it comes behind isn't.
		{forked, []bool{no, yes}, []int{0}},
		{forked, []bool{no, yes, yes}, []int{0, 3}},
		{forked, []bool{no, yes, yes, yes}, []int{0}},
		{forked, []bool{no, no, no, yes}, []int{0}},
		{forked, []bool{yes, no, no, yes}, []int{1, 2}},
		{turned, []bool{yes}, []int{3}},
		{turned, []bool{no, yes, yes}, []int{0, 3}},
		{turned, []bool{yes, no, yes}, []int{3}},
		// Of a round none may begin, unless one of it is done.
		{rounded, nil, []int{2}},
		{rounded, []bool{no, no, yes}, []int{3}},
		{rounded, []bool{yes, no, yes}, []int{1, 3}},
		{rounded, []bool{no, yes}, []int{0, 2}},
		{rounded, []bool{yes, yes, yes, yes}, nil},
		{rounded, []bool{yes, yes, no, no, yes}, []int{2}},
		{rounded, []bool{yes, yes, yes, no, yes}, []int{3, 5}},
		{rounded, []bool{yes, yes, yes, yes, no, yes}, nil},
		{pipe([]int{0}), nil, nil},
		{pipe([]int{0}), []bool{no}, nil},
		{pipe([]int{0}), []bool{yes}, nil},
		{pipe([]int{1}, []int{0}), nil, nil},
		{pipe([]int{1}, []int{1}), []bool{no, yes}, []int{0}},
		// One task.
		{pipe(nil), nil, []int{0}},
		{pipe(nil), []bool{}, []int{0}},
		{pipe(nil), []bool{no}, []int{0}},
		{pipe(nil), []bool{yes}, nil},
		{pipe(nil), []bool{no, yes}, []int{0}},
		{pipe(nil), []bool{yes, no}, nil},
		// What one comes behind by others alone needn't be done.
		{pipe(nil, []int{0}, []int{1}), []bool{no, yes, no}, []int{0, 2}},
		{pipe(nil, []int{0}, []int{1, 0}), []bool{no, yes, no}, []int{0}},
	} {
		begins(t, c.p, c.done, c.want...)
	}
}

// Of eight tasks, however many are told, all others aren't done.
func TestReadyOfShortLists(t *testing.T) {
	free, rowed := pipe(make([][]int, 8)...), pipe(nil, []int{0}, []int{1}, []int{2}, []int{3}, []int{4}, []int{5}, []int{6})
	for n := range 20 {
		for _, room := range []int{0, 1, 20} {
			done := slices.Grow(bits(-1, n), room)
			spare := done[:cap(done)]
			for i := n; i < len(spare); i++ {
				spare[i] = true
			}
			if n >= 8 {
				begins(t, free, done)
				begins(t, rowed, done)
				continue
			}
			begins(t, free, done, row(n, 7)...)
			begins(t, rowed, done, n)
		}
	}
}

// P9.2: Long

func TestLong(t *testing.T) {
	for _, c := range []struct {
		after [][]int
		want  int
	}{
		{[][]int{nil}, 1},
		{[][]int{nil, nil}, 1},
		{[][]int{nil, {0}}, 2},
		{[][]int{{1}, nil}, 2},
		{[][]int{nil, {0}, nil, {2}}, 2},
		{[][]int{nil, {0}, {1}, nil}, 3},
		{[][]int{nil, nil, {1}, {2}}, 3},
		// Rows of unlike lengths meet, and part again: the longer way counts, wherever it stands.
		{[][]int{nil, {0}, {1}, {0, 2}}, 4},
		{[][]int{nil, {0}, {1}, {2, 0}}, 4},
		{[][]int{{1, 3}, {2}, {3}, nil}, 4},
		{[][]int{nil, nil, {1}, {0, 2}}, 3},
		{[][]int{nil, nil, {1}, {2, 0}, {3}, {3}, {5}}, 5},
		{[][]int{nil, nil, {1}, {2}, {3, 0}, {4}, {4}, {5}}, 6},
		{[][]int{nil, {0}, {0}, {2}, {1, 3}, {4}, {4}, {6}}, 6},
		{[][]int{{5, 1}, {3, 2}, {4}, {4}, {6, 7}, {1}, {7}, nil}, 7},
		{[][]int{{7}, {0}, {0}, {2}, {3, 1}, nil, {5, 4}, nil}, 6},
		{[][]int{nil, {0}, {1}, {2}, nil, {4}, {3, 5}, {0}}, 5},
		{[][]int{nil, {0}, {0}, {0}, {1, 2, 3}, {4}, {4}, {6, 5}}, 5},
		// The longest row needn't end at the last place, nor at the last one of the order.
		{[][]int{nil, {0}, {1}, {2}, {0}}, 4},
		{[][]int{{1}, {2}, {3}, nil, nil, {4}}, 4},
		{[][]int{nil, nil, nil, {0}, {3}, {1}}, 3},
	} {
		long(t, pipe(c.after...), c.want)
	}
	for i, p := range []api.Pipeline{pipe([]int{0}), pipe([]int{1}, []int{0}), pipe(nil, []int{0}, []int{1, 3}, []int{2}), pipe([]int{7}, nil, []int{1}, []int{2}, []int{3}, []int{4}, []int{5}, []int{0}), pipe([]int{1}, []int{2}, []int{2})} {
		if got := Long(p); got != 0 {
			t.Error(i, got)
		}
	}
}

// Rows of each length, in lists of each length that holds them, from the least place up and from the greatest down.
func TestLongOfRows(t *testing.T) {
	for n := 1; n <= 8; n++ {
		for length := 1; length <= n; length++ {
			up, down := make([][]int, n), make([][]int, n)
			for i := 1; i < length; i++ {
				up[i], down[n-1-i] = []int{i - 1}, []int{n - i}
			}
			long(t, pipe(up...), length)
			long(t, pipe(down...), length)
		}
	}
}
