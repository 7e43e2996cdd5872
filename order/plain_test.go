package order

import (
	"math"
	"math/rand"
	"slices"
	"testing"

	"lockage/api"
	"lockage/manifest"
)

// The plain ways: the chapter's words, asked of all places one by one, of pipelines that may be.

// plainAhead goes as many steps as there are tasks, and takes all that a step comes to.
func plainAhead(p api.Pipeline, i int) []int {
	at, met := map[int]bool{i: true}, map[int]bool{}
	for range p.Tasks {
		next := map[int]bool{}
		for from := range at {
			for _, place := range p.Tasks[from].After {
				next[place], met[place] = true, true
			}
		}
		at = next
	}
	return those(p, func(place int) bool { return met[place] })
}

// those is the places of tasks of which it is so.
func those(p api.Pipeline, is func(place int) bool) []int {
	var list []int
	for place := range p.Tasks {
		if is(place) {
			list = append(list, place)
		}
	}
	return list
}

func plainBehind(p api.Pipeline, i int) []int {
	return those(p, func(place int) bool { return slices.Index(p.Tasks[place].After, i) >= 0 })
}

func plainRound(p api.Pipeline) int {
	itself := those(p, func(place int) bool { return slices.Index(plainAhead(p, place), place) >= 0 })
	return append(itself, -1)[0]
}

// plainOrder is the first, as in a dictionary, of all orders in which each stands behind all that it comes behind; nil: there is none.
func plainOrder(p api.Pipeline) []int {
	var all [][]int
	for i := range p.Tasks {
		all = append(all, plainAhead(p, i))
	}
	var from func(list []int) []int
	from = func(list []int) []int {
		if len(list) == len(p.Tasks) {
			return list
		}
		for i, ahead := range all {
			missing := func(place int) bool { return slices.Index(list, place) < 0 }
			if !missing(i) || slices.ContainsFunc(ahead, missing) {
				continue
			}
			if whole := from(append(slices.Clone(list), i)); whole != nil {
				return whole
			}
		}
		return nil
	}
	return from(nil)
}

func plainReady(p api.Pipeline, done []bool) []int {
	all := make([]bool, len(p.Tasks))
	copy(all, done)
	return those(p, func(place int) bool {
		is := !all[place]
		for _, other := range p.Tasks[place].After {
			is = is && all[other]
		}
		return is
	})
}

// plainLong goes down every row there is.
func plainLong(p api.Pipeline) int {
	if plainRound(p) >= 0 {
		return 0
	}
	var from func(i int) int
	from = func(i int) int {
		longest := 0
		for _, place := range p.Tasks[i].After {
			longest = max(longest, from(place))
		}
		return longest + 1
	}
	longest := 0
	for i := range p.Tasks {
		longest = max(longest, from(i))
	}
	return longest
}

// noPlaces is the numbers beside the places of n tasks, and the ends of all numbers.
func noPlaces(n int) []int {
	return []int{math.MinInt, math.MinInt + 1, -1 << 32, -256, -8, -2, -1, n, n + 1, 8, 9, n + 256, 1 << 32, math.MaxInt - 1, math.MaxInt}
}

// asks holds all calls but Ready against the plain ways, of a pipeline that may be.
func asks(t *testing.T, p api.Pipeline) {
	t.Helper()
	if !manifest.Right(p) {
		t.Fatalf("%+v may not be", p)
	}
	want, round := plainOrder(p), plainRound(p)
	if got, ok := Order(p); !slices.Equal(got, want) || ok != (round < 0) || ok != (want != nil) || !ok && got != nil {
		t.Errorf("%v: Order %v %v, not %v", afters(p), got, ok, want)
	}
	if got := Round(p); got != round {
		t.Errorf("%v: Round %d, not %d", afters(p), got, round)
	}
	if got, want := Long(p), plainLong(p); got != want {
		t.Errorf("%v: Long %d, not %d", afters(p), got, want)
	}
	for i := range p.Tasks {
		if got, want := Behind(p, i), plainBehind(p, i); !slices.Equal(got, want) {
			t.Errorf("%v: Behind %d %v, not %v", afters(p), i, got, want)
		}
		if got, want := Ahead(p, i), plainAhead(p, i); !slices.Equal(got, want) {
			t.Errorf("%v: Ahead %d %v, not %v", afters(p), i, got, want)
		}
	}
}

// asksNoPlaces asks that nothing is behind or ahead of what is no place.
func asksNoPlaces(t *testing.T, p api.Pipeline) {
	t.Helper()
	for _, i := range noPlaces(len(p.Tasks)) {
		if 0 <= i && i < len(p.Tasks) {
			continue
		}
		if behind, ahead := Behind(p, i), Ahead(p, i); len(behind) != 0 || len(ahead) != 0 {
			t.Errorf("%v: of %d: Behind %v, Ahead %v", afters(p), i, behind, ahead)
		}
	}
}

// asksReady holds Ready against the plain way.
func asksReady(t *testing.T, p api.Pipeline, done []bool) {
	t.Helper()
	if got, want := Ready(p, done), plainReady(p, done); !slices.Equal(got, want) {
		t.Errorf("%v: Ready %v %v, not %v", afters(p), done, got, want)
	}
}

// afters is what the tasks come behind, for messages.
func afters(p api.Pipeline) [][]int {
	var list [][]int
	for _, task := range p.Tasks {
		list = append(list, task.After)
	}
	return list
}

// bits is so many answers, as a number's bits tell them.
func bits(number, n int) []bool {
	list := make([]bool, n)
	for i := range list {
		list[i] = number>>i&1 == 1
	}
	return list
}

// numbered is the pipeline of n tasks whose Afters a number's bits tell; every second one's fall.
func numbered(number, n int) api.Pipeline {
	after := make([][]int, n)
	for i := range after {
		for place := range n {
			if number>>(i*n+place)&1 == 1 {
				after[i] = append(after[i], place)
			}
		}
		if i%2 == 1 {
			slices.Reverse(after[i])
		}
	}
	return pipe(after...)
}

// All pipelines of up to four tasks there are, told by what comes behind what.
func TestAllShortPipelines(t *testing.T) {
	for n := 1; n <= 4; n++ {
		for number := range 1 << (n * n) {
			p := numbered(number, n)
			asks(t, p)
			if n == 4 { // One of the ways to be done each; all ways are asked of the shorter ones.
				asksReady(t, p, bits(number*number/7, number%6))
				continue
			}
			asksNoPlaces(t, p)
			for length := range n + 3 {
				for done := range 1 << length {
					asksReady(t, p, bits(done, length))
				}
			}
		}
		if t.Failed() {
			t.FailNow()
		}
	}
}

// anyPipeline is one of a random order; one of three has some more in its Afters, so that it may have a round.
func anyPipeline(r *rand.Rand) api.Pipeline {
	n := 1 + r.Intn(8)
	after := make([][]int, n)
	some := 1 + r.Intn(6)
	order := r.Perm(n)
	for i, place := range order {
		for _, other := range order[:i] {
			if r.Intn(some) == 0 {
				after[place] = append(after[place], other)
			}
		}
	}
	for range r.Intn(3) / 2 * (1 + r.Intn(3)) {
		place, other := r.Intn(n), r.Intn(n)
		if !slices.Contains(after[place], other) {
			after[place] = append(after[place], other)
		}
	}
	for _, list := range after {
		r.Shuffle(len(list), func(i, j int) { list[i], list[j] = list[j], list[i] })
	}
	p := pipe(after...)
	for i := range p.Tasks {
		if r.Intn(3) == 0 {
			p.Tasks[i].Need, p.Tasks[i].To = 1+r.Intn(4), api.Label{Level: r.Intn(8), Set: uint16(r.Intn(1 << 16))}
		}
	}
	return p
}

func anyDone(r *rand.Rand, n int) []bool {
	done := bits(r.Int()|r.Int(), n+2)
	return done[:r.Intn(len(done)+1)]
}

func TestAnyPipelines(t *testing.T) {
	random := rand.New(rand.NewSource(9))
	rounds, moved, kinds := 0, 0, map[int]int{}
	for range 15000 {
		p := anyPipeline(random)
		asks(t, p)
		asksNoPlaces(t, p)
		for range 4 {
			asksReady(t, p, anyDone(random, len(p.Tasks)))
		}
		if t.Failed() {
			t.FailNow()
		}
		if list, ok := Order(p); !ok {
			rounds++
		} else if !slices.IsSorted(list) {
			moved++
		}
		kinds[Long(p)]++
	}
	if rounds < 1000 || moved < 5000 || len(kinds) != 9 {
		t.Error("hardly held against each other:", rounds, moved, kinds)
	}
	for long := 1; long <= 7; long++ {
		if kinds[long] < 50 {
			t.Error("hardly held against each other:", long, kinds)
		}
	}
}

// What was asked ahead of it is in no answer.
func TestAnswersHangOnArgumentsAlone(t *testing.T) {
	random := rand.New(rand.NewSource(10))
	var list []api.Pipeline
	for range 500 {
		list = append(list, anyPipeline(random))
	}
	for range 3 {
		random.Shuffle(len(list), func(i, j int) { list[i], list[j] = list[j], list[i] })
		for _, p := range list {
			asksReady(t, p, anyDone(random, len(p.Tasks)))
			asks(t, p)
		}
	}
}
