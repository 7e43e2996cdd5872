package check

import (
	"cmp"
	"math"
	"math/rand"
	"slices"
	"testing"

	"lockage/api"
	"lockage/manifest"
	"lockage/roster"
)

// The plain ways: the chapter's words, asked of the lists that a roster is made of; labels are held against each other bit by bit.

// house is what a roster is made of.
type house struct {
	labels []api.Label
	people []api.Person
}

// roster is the one of a house; none, of no labels.
func (h house) roster(t *testing.T) *roster.Roster {
	t.Helper()
	if len(h.labels) == 0 {
		return nil
	}
	r, e := roster.New(h.labels, h.people)
	if e != api.OK {
		t.Fatal(h, e)
	}
	return r
}

// plainBelow: is a label below another one, or the same?
func plainBelow(a, b api.Label) bool {
	for bit := range 16 {
		if a.Set>>bit&1 == 1 && b.Set>>bit&1 == 0 {
			return false
		}
	}
	return a.Level <= b.Level
}

// plainMay: may one of a label, with this Auth, take off all that is taken off on the way to another one?
func plainMay(own, auth, to api.Label) bool {
	for bit := range 16 {
		if own.Set>>bit&1 == 1 && to.Set>>bit&1 == 0 && auth.Set>>bit&1 == 0 {
			return false
		}
	}
	if own.Level > to.Level {
		return auth.Level >= own.Level
	}
	return auth.Level >= 0
}

func (h house) plainVoters(part int, to api.Label) []int {
	var list []int
	for who, person := range h.people {
		if person.Part == part && plainMay(h.labels[part], person.Auth, to) {
			list = append(list, who)
		}
	}
	return list
}

// plainFind is the partition of a label; -1: there is none.
func (h house) plainFind(to api.Label) int {
	found := -1
	for part, l := range h.labels {
		if l.Level == to.Level && l.Set == to.Set {
			found = part
		}
	}
	return found
}

func (h house) plainTargets(p api.Pipeline) []int {
	if !manifest.Right(p) {
		return nil
	}
	list := make([]int, len(p.Tasks))
	for i, task := range p.Tasks {
		list[i] = -1
		if task.Need > 0 {
			list[i] = h.plainFind(task.To)
		}
	}
	return list
}

// refusal is an error and its place.
type refusal struct {
	at int
	e  api.Errno
}

// fits is where there is no error.
var fits = refusal{0, api.OK}

// turned is a refusal, its turn among those of its place, and a name for its kind.
type turned struct {
	refusal
	turn int
	kind string
}

// plainFaults is all faults of a pipeline's gates, kind by kind.
func (h house) plainFaults(p api.Pipeline, part int) []turned {
	kinds := []struct {
		kind string
		e    api.Errno
		is   func(gate api.Task) bool
	}{
		{"voters", api.ErrState, func(gate api.Task) bool { return gate.Need > len(h.plainVoters(part, gate.To)) }},
		{"up", api.ErrLabel, func(gate api.Task) bool { return plainBelow(h.labels[part], gate.To) }},
		{"nowhere", api.ErrLabel, func(gate api.Task) bool { return h.plainFind(gate.To) == -1 }},
		{"many", api.ErrForm, func(gate api.Task) bool { return len(gate.After) > 1 }},
		{"none", api.ErrForm, func(gate api.Task) bool { return len(gate.After) == 0 }},
	}
	var list []turned
	for turn, k := range kinds {
		for i, task := range p.Tasks {
			if task.Need > 0 && k.is(task) {
				list = append(list, turned{refusal{i, k.e}, -turn, k.kind})
			}
		}
	}
	return list
}

// plainRound is the least place from which one comes back by as many steps as there are tasks, or fewer; -1: there is none.
func plainRound(p api.Pipeline) int {
	for i := range p.Tasks {
		at := []int{i}
		for range p.Tasks {
			var next []int
			for _, from := range at {
				next = append(next, p.Tasks[from].After...)
			}
			if slices.Contains(next, i) {
				return i
			}
			slices.Sort(next)
			at = slices.Compact(next)
		}
	}
	return -1
}

// plainCheck gathers all that is wrong, and tells the first.
func (h house) plainCheck(p api.Pipeline, part int) turned {
	if !manifest.Right(p) {
		return turned{refusal{-1, api.ErrArg}, 0, "no pipeline"}
	}
	if part < 0 || part >= len(h.labels) {
		return turned{refusal{-1, api.ErrArg}, 0, "no partition"}
	}
	if round := plainRound(p); round != -1 {
		return turned{refusal{round, api.ErrCycle}, 0, "round"}
	}
	list := append(h.plainFaults(p, part), turned{refusal{len(p.Tasks), api.OK}, 0, "fit"})
	first := slices.MinFunc(list, func(a, b turned) int { return cmp.Or(cmp.Compare(a.at, b.at), cmp.Compare(a.turn, b.turn)) })
	if first.refusal.e == api.OK {
		first.refusal = fits
	}
	return first
}

// noPlaces is the numbers beside the places of a list of n, and the ends of all numbers.
func noPlaces(n int) []int {
	return []int{math.MinInt, math.MinInt + 1, -1 << 32, -256, -8, -2, -1, n, n + 1, n + 3, n + 256, 1 << 32, math.MaxInt - 1, math.MaxInt}
}

// asks holds Check and Targets against the plain ways, in each partition and beside them.
func asks(t *testing.T, h house, p api.Pipeline) {
	t.Helper()
	r := h.roster(t)
	for part := -1; part <= len(h.labels); part++ {
		asksFor(t, h, r, p, part)
	}
}

func asksFor(t *testing.T, h house, r *roster.Roster, p api.Pipeline, part int) {
	t.Helper()
	want := h.plainCheck(p, part)
	if got := told(t, Check(p, r, part)); got != want.refusal {
		t.Errorf("%+v in %d of %v: %v, not %v", p, part, h, got, want)
	}
	if got, want := Targets(p, r), h.plainTargets(p); !slices.Equal(got, want) {
		t.Errorf("%+v of %v: Targets %v, not %v", p, h, got, want)
	}
}

// asksVoters holds Voters against the plain way, in each partition and beside them.
func asksVoters(t *testing.T, h house, to api.Label) {
	t.Helper()
	r := h.roster(t)
	for part := -1; part <= len(h.labels); part++ {
		if got, want := Voters(r, part, to), h.plainVoters(part, to); !slices.Equal(got, want) {
			t.Errorf("from %d of %v to %v: Voters %v, not %v", part, h, to, got, want)
		}
	}
}

// few is all labels of so many levels and two compartments.
func few(levels int) []api.Label {
	var list []api.Label
	for level := range levels {
		for set := range 4 {
			list = append(list, api.Label{Level: level, Set: uint16(set)})
		}
	}
	return list
}

// single is a task, and a gate behind it.
func single(to api.Label, need int) api.Pipeline {
	return api.Pipeline{Name: "p", Tasks: []api.Task{{Name: "a", Time: 5}, {Name: "g", After: []int{0}, Time: 5, Need: need, To: to}}}
}

// All gates of two partitions, from and to all of some labels, with one who may take off any of them.
func TestAllSmallGates(t *testing.T) {
	labels := few(3)
	kinds := map[string]int{}
	for _, own := range labels {
		for _, other := range labels {
			if own == other {
				continue
			}
			for _, auth := range labels {
				h := house{[]api.Label{other, own}, []api.Person{{Part: 1, Auth: auth}}}
				r := h.roster(t)
				for _, to := range labels {
					p := single(to, 1)
					asksFor(t, h, r, p, 1)
					kinds[h.plainCheck(p, 1).kind]++
				}
				asksVoters(t, h, other)
			}
		}
		if t.Failed() {
			t.FailNow()
		}
	}
	for _, kind := range []string{"fit", "nowhere", "up", "voters"} {
		if kinds[kind] < 200 {
			t.Error("hardly held against each other:", kind, kinds)
		}
	}
}

// Levels up to the greatest, and each compartment.
func TestAllLevelsAndBits(t *testing.T) {
	for bit := range 16 {
		set := uint16(1) << bit
		for own := range 8 {
			for to := range 8 {
				h := house{labels: []api.Label{{Level: own, Set: set}, {Level: to, Set: ^set}}}
				for auth := range 12 {
					h.people = append(h.people, api.Person{Part: auth / 3 % 2, Auth: api.Label{Level: auth % 8, Set: set * uint16(auth%2)}})
				}
				for need := 1; need <= 4; need++ {
					asks(t, h, single(h.labels[1], need))
					asks(t, h, single(h.labels[0], need))
				}
				asksVoters(t, h, h.labels[1])
				asksVoters(t, h, h.labels[0])
				asksVoters(t, h, api.Label{Level: to})
			}
		}
		if t.Failed() {
			t.FailNow()
		}
	}
}

// anyHouse is one of few labels, mostly, so that these are above, below and aside of each other.
func anyHouse(r *rand.Rand) house {
	labels := few(3)
	for range 4 {
		labels = append(labels, api.Label{Level: r.Intn(8), Set: uint16(r.Intn(1 << 16))})
	}
	slices.SortFunc(labels, func(a, b api.Label) int { return cmp.Or(a.Level-b.Level, int(a.Set)-int(b.Set)) })
	labels = slices.Compact(labels)
	r.Shuffle(len(labels), func(i, j int) { labels[i], labels[j] = labels[j], labels[i] })
	h := house{labels: labels[:1+r.Intn(4)]}
	for range min(12, r.Intn(16)) {
		person := api.Person{Part: r.Intn(len(h.labels)), Auth: labels[r.Intn(len(labels))]}
		if r.Intn(2) == 0 {
			person.Auth = api.Label{Level: 7, Set: 0xffff}
		}
		h.people = append(h.people, person)
	}
	return h
}

// anyGate makes one of a task, to some label, mostly one that a partition has.
func anyGate(r *rand.Rand, h house, task *api.Task) {
	task.Need, task.Retry = 1+r.Intn(4), 0
	task.To = h.labels[r.Intn(len(h.labels))]
	if r.Intn(2) == 0 {
		task.Need = 1
	}
	if r.Intn(8) == 0 {
		task.To = few(3)[r.Intn(12)]
	}
}

// anyPipeline is one that may be, mostly; gates are behind one mostly; one of a few has a round.
func anyPipeline(r *rand.Rand, h house) api.Pipeline {
	p := api.Pipeline{Name: "pipe"}
	for i := range 1 + r.Intn(8) {
		task := api.Task{Name: string([]byte{byte('a' + i)}), Time: 1 + r.Intn(100), Retry: r.Intn(6)}
		if i > 0 && r.Intn(8) > 0 {
			task.After = r.Perm(i)[:1]
		}
		if r.Intn(3) == 0 {
			task.After = r.Perm(i)[:r.Intn(i+1)]
		}
		if i > 0 && r.Intn(3) > 0 {
			anyGate(r, h, &task)
		}
		p.Tasks = append(p.Tasks, task)
	}
	turn(r, &p)
	if r.Intn(8) == 0 {
		task := &p.Tasks[r.Intn(len(p.Tasks))]
		task.After = r.Perm(len(p.Tasks))[:1]
	}
	if r.Intn(16) == 0 {
		spoil(r, &p)
	}
	return p
}

// turn puts the tasks in another order.
func turn(r *rand.Rand, p *api.Pipeline) {
	places := r.Perm(len(p.Tasks))
	tasks := make([]api.Task, len(p.Tasks))
	for i, task := range p.Tasks {
		for j, place := range task.After {
			task.After[j] = places[place]
		}
		tasks[places[i]] = task
	}
	p.Tasks = tasks
}

// spoil makes one of a pipeline that may not be, mostly.
func spoil(r *rand.Rand, p *api.Pipeline) {
	task := &p.Tasks[r.Intn(len(p.Tasks))]
	switch r.Intn(7) {
	case 0:
		p.Name = ""
	case 1:
		task.Name = p.Tasks[0].Name
	case 2:
		task.After = append(task.After, len(p.Tasks))
	case 3:
		task.Time = 0
	case 4:
		task.Retry = 6
	case 5:
		task.Need = 5
	case 6:
		task.To.Level = 8
	}
}

func TestAnyPipelines(t *testing.T) {
	random := rand.New(rand.NewSource(10))
	kinds, lates := map[string]int{}, map[string]int{}
	for range 30000 {
		h := anyHouse(random)
		p := anyPipeline(random, h)
		asks(t, h, p)
		asksVoters(t, h, few(3)[random.Intn(12)])
		if t.Failed() {
			t.FailNow()
		}
		for part := range h.labels {
			first := h.plainCheck(p, part)
			kinds[first.kind]++
			if first.at > 2 {
				lates[first.kind]++
			}
		}
	}
	for _, kind := range []string{"no pipeline", "round", "none", "many", "nowhere", "up", "voters", "fit"} {
		if kinds[kind] < 1000 || lates[kind] < 200 && kind != "no pipeline" && kind != "fit" {
			t.Error("hardly held against each other:", kind, kinds, lates)
		}
	}
}

// What was asked ahead of it is in no answer.
func TestAnswersHangOnArgumentsAlone(t *testing.T) {
	random := rand.New(rand.NewSource(11))
	type asked struct {
		h house
		p api.Pipeline
	}
	var list []asked
	for range 500 {
		h := anyHouse(random)
		list = append(list, asked{h, anyPipeline(random, h)})
	}
	for range 3 {
		random.Shuffle(len(list), func(i, j int) { list[i], list[j] = list[j], list[i] })
		for i, a := range list {
			asks(t, a.h, a.p)
			asks(t, list[0].h, a.p)
			asksVoters(t, a.h, list[i/2].h.labels[0])
		}
	}
}
