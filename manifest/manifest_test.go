package manifest

import (
	"errors"
	"math"
	"slices"
	"strconv"
	"strings"
	"testing"
	"unsafe"

	"lockage/api"
	"lockage/label"
	"lockage/lexer"
)

// refusal is what is wrong, and where; {0, api.OK}: nothing is.
type refusal struct {
	at int
	e  api.Errno
}

func at(place int, e api.Errno) refusal { return refusal{place, e} }

var fine = refusal{}

// refused asks that a text is refused: by a fault at its place that wraps its Errno, and no other one, and without a pipeline.
func refused(t *testing.T, s string, want refusal) {
	t.Helper()
	p, err := Parse(s)
	if p.Name != "" || p.Tasks != nil {
		t.Errorf("%.90q: %+v beside an error", s, p)
	}
	var f *api.Fault
	if !errors.As(err, &f) || f == nil {
		t.Errorf("%.90q: %v is no fault", s, err)
		return
	}
	if f.At != want.at || f.Err != error(want.e) || lexer.At(err) != want.at {
		t.Errorf("%.90q: %v at %d, not %v at %d", s, f.Err, f.At, want.e, want.at)
	}
	for e := api.OK - 1; e <= api.ErrWord+1; e++ {
		if errors.Is(err, e) != (e == want.e) {
			t.Errorf("%.90q: is it %d (%v)? %v", s, e, e, errors.Is(err, e))
		}
	}
}

// reads asks that a text is read as a pipeline.
func reads(t *testing.T, s string, want api.Pipeline) {
	t.Helper()
	got, err := Parse(s)
	if err != nil || !plainSame(got, want) {
		t.Errorf("%.90q: %+v %v, not %+v", s, got, err, want)
	}
}

// mark stands in a text ahead of where what is wrong stands.
const mark = "^"

// refusedAt asks that a text is refused where its mark stands, and that the plain way tells the same.
func refusedAt(t *testing.T, marked string, e api.Errno) {
	t.Helper()
	ahead, behind, is := strings.Cut(marked, mark)
	if !is || strings.Contains(behind, mark) {
		t.Fatal("not one mark:", marked)
	}
	want := at(len(ahead), e)
	refused(t, ahead+behind, want)
	if _, plain := plainParse(ahead+behind, 600); plain != want {
		t.Errorf("%.90q: the plain way tells %v, not %v", ahead+behind, plain, want)
	}
}

// one is a pipeline p of the tasks.
func one(tasks ...api.Task) api.Pipeline { return api.Pipeline{Name: "p", Tasks: tasks} }

func task(name string, after ...int) api.Task { return api.Task{Name: name, After: after, Time: 5} }

func gate(name string, to api.Label, need int, after ...int) api.Task {
	return api.Task{Name: name, After: after, Time: 5, Need: need, To: to}
}

func of(level int, set uint16) api.Label { return api.Label{Level: level, Set: set} }

// P8.1: what is read

func TestExamples(t *testing.T) {
	reads(t, "pipe p\ntask a", one(task("a")))
	refusedAt(t, "pipe p\ntask a after ^b", api.ErrNone)
}

func TestTasks(t *testing.T) {
	for s, want := range map[string]api.Pipeline{
		"task a":                                           one(task("a")),
		"task a retry 3":                                   one(api.Task{Name: "a", Retry: 3, Time: 5}),
		"task a time 9":                                    one(api.Task{Name: "a", Time: 9}),
		"task a time 9 retry 3":                            one(api.Task{Name: "a", Retry: 3, Time: 9}),
		"task a\ntask b":                                   one(task("a"), task("b")),
		"task b\ntask a":                                   one(task("b"), task("a")),
		"task a\ntask b after a":                           one(task("a"), task("b", 0)),
		"task a\ntask b after a\ntask c":                   one(task("a"), task("b", 0), task("c")),
		"gate g to 1:00ff need 2":                          one(gate("g", of(1, 255), 2)),
		"gate g to 0:0000 need 1":                          one(gate("g", of(0, 0), 1)),
		"task a\ngate g after a need 4 to 7:ffff":          one(task("a"), gate("g", of(7, 0xffff), 4, 0)),
		"gate g to 2:0001 need 1 time 100\ntask a after g": one(api.Task{Name: "g", Time: 100, Need: 1, To: of(2, 1)}, task("a", 0)),
		// A gate's pairs are its own: the next line has none of them, and the other way round.
		"gate g to 2:0001 need 1 time 7 after a\ntask a": one(api.Task{Name: "g", After: []int{1}, Time: 7, Need: 1, To: of(2, 1)}, task("a")),
		"task a retry 5 time 1 after b\ntask b":          one(api.Task{Name: "a", After: []int{1}, Retry: 5, Time: 1}, task("b")),
		// What words are, hangs on where they stand.
		"task task": one(task("task")),
		"task pipe\ntask gate after pipe\ngate task after gate,pipe to 1:0000 need 1": one(task("pipe"), task("gate", 0), gate("task", of(1, 0), 1, 1, 0)),
		"task after after after": one(task("after", 0)),
		"task time time 6":       one(api.Task{Name: "time", Time: 6}),
		"task to after time\ntask time after need,to\ngate need to 1:0000 need 1": one(task("to", 1), task("time", 2, 0), gate("need", of(1, 0), 1)),
		"task p":                       one(task("p")),
		"task abcdefgh":                one(task("abcdefgh")),
		"task zyxwvuts after zyxwvuts": one(task("zyxwvuts", 0)),
	} {
		reads(t, "pipe p\n"+s, want)
		asksPlainly(t, "pipe p\n"+s)
	}
	for _, name := range []string{"p", "z", "abcdefgh", "pipe", "task", "gate", "after"} {
		reads(t, "pipe "+name+"\ntask a", api.Pipeline{Name: name, Tasks: []api.Task{task("a")}})
	}
}

// Spaces and line feeds, ahead, between and behind, tell nothing.
func TestSpacesAndLineFeeds(t *testing.T) {
	want := one(api.Task{Name: "a", Retry: 2, Time: 5}, gate("b", of(1, 2), 3, 0))
	for _, ahead := range []string{"", " ", "   ", "\n", "\n\n", " \n", " \n  \n "} {
		for _, between := range []string{" ", "  ", "     "} {
			for _, feed := range []string{"\n", "\n\n", " \n", "\n ", "  \n \n\n  "} {
				for _, behind := range []string{"", " ", "  ", "\n", "\n\n", " \n ", "\n  \n\n"} {
					s := ahead + "pipe p" + feed + "task a retry 2" + feed + "gate b to 1:0002 need 3 after a" + behind
					reads(t, strings.ReplaceAll(s, " ", between), want)
					refusedAt(t, strings.ReplaceAll(ahead+"pipe p"+behind+mark, " ", between), api.ErrNone)
					refusedAt(t, strings.ReplaceAll(ahead+"pipe p"+feed+"task a"+feed+"task b after a,^c"+behind, " ", between), api.ErrNone)
					refusedAt(t, strings.ReplaceAll(ahead+"pipe p"+feed+"task a"+feed+"task b ^time"+behind, " ", between), api.ErrForm)
					refusedAt(t, strings.ReplaceAll(ahead+"^pipe"+feed+"p"+feed+"task a"+behind, " ", between), api.ErrForm)
				}
			}
		}
	}
}

// A gate's pairs, all and some of them, in every order.
func TestPairsInEveryOrder(t *testing.T) {
	values := map[string]string{"after": "b,a", "time": "7", "to": "3:00f0", "need": "2", "retry": "4"}
	var orders func(ahead, left []string)
	orders = func(ahead, left []string) {
		asksOrder(t, ahead, values)
		for i := range left {
			orders(append(slices.Clone(ahead), left[i]), slices.Delete(slices.Clone(left), i, i+1))
		}
	}
	orders(nil, []string{"after", "time", "to", "need"})
	orders(nil, []string{"after", "time", "retry"})
}

func asksOrder(t *testing.T, words []string, values map[string]string) {
	t.Helper()
	line := ""
	want := task("g")
	for _, word := range words {
		line += " " + word + " " + values[word]
		switch word {
		case "after":
			want.After = []int{2, 0}
		case "time":
			want.Time = 7
		case "retry":
			want.Retry = 4
		}
	}
	to, need := slices.Contains(words, "to"), slices.Contains(words, "need")
	if !to && !need {
		reads(t, "pipe p\ntask a\ntask g"+line+"\ntask b", one(task("a"), want, task("b")))
	}
	if slices.Contains(words, "retry") {
		return
	}
	if !to || !need {
		refusedAt(t, "pipe p\ntask a\n^gate g"+line+"\ntask b", api.ErrForm)
		refusedAt(t, "pipe p\ntask a\ntask b\n  ^gate g"+line, api.ErrForm)
		return
	}
	want.Need, want.To = 2, of(3, 0xf0)
	reads(t, "pipe p\ntask a\ngate g"+line+"\ntask b", one(task("a"), want, task("b")))
}

func TestAfter(t *testing.T) {
	const ahead = "pipe p\ntask a\ntask b after "
	for names, places := range map[string][]int{
		"a": {0}, "b": {1}, "c": {2}, "abcdefgh": {3}, "a,b": {0, 1}, "b,a": {1, 0}, "c,a": {2, 0}, "a,c": {0, 2}, "c,b,a": {2, 1, 0}, "abcdefgh,c,b,a": {3, 2, 1, 0}, "b,abcdefgh,a,c": {1, 3, 0, 2},
	} {
		for _, behind := range []string{"", " retry 0", " time 5", "\n"} {
			s := ahead + names + behind + "\ntask c\ngate abcdefgh need 1 to 1:0000"
			reads(t, s, one(task("a"), task("b", places...), task("c"), gate("abcdefgh", of(1, 0), 1)))
		}
	}
	for _, s := range []string{
		"pipe p\ntask a after a,^a", "pipe p\ntask a\ntask b after a,b,^a", "pipe p\ntask a\ntask b after b,a,^a,b", "pipe p\ntask a after x,y,^x", "pipe p\ntask ab after ab,^ab,ab", "pipe p\ntask a after b,a,^b\ntask b",
		"pipe p\ntask a after c,d,^d,c", "pipe p\ngate g need 1 to 1:0000 after g,^g", "pipe p\ntask a after abcdefgh,a,b,^abcdefgh",
	} {
		refusedAt(t, s, api.ErrOnce)
	}
	for _, s := range []string{
		"pipe p\ntask a after ^,", "pipe p\ntask a after ^,a", "pipe p\ntask a after a,^", "pipe p\ntask a after a,^,a", "pipe p\ntask a after ^A", "pipe p\ntask a after a,^B", "pipe p\ntask a after ^abcdefghi", "pipe p\ntask a after ^1",
		"pipe p\ntask a after a,^abcdefghi,b", "pipe p\ntask a after ^a.b", "pipe p\ntask a after ^a;b", "pipe p\ntask a after x,x,^X", "pipe p\ntask a after a,a,^", "pipe p\ngate g after g,g,^1 need 1 to 1:0000",
	} {
		refusedAt(t, s, api.ErrName)
	}
	for _, s := range []string{
		"pipe p\ntask a after ^b", "pipe p\ntask a after ^p", "pipe p\ntask a after ^task", "pipe p\ntask a after a,^b", "pipe p\ntask a after a,^b,c", "pipe p\ntask a after ^aa", "pipe p\ntask ab after ^a", "pipe p\ntask a after a,^abcdefgh time 7", "pipe p\ntask a after b,^c\ntask b",
		"pipe p\ntask a after b\ntask b after a,^c", "pipe p\ntask a after ^y\ntask b after x", "pipe p\ntask a after b\ntask b after ^y,x,a", "pipe p\ngate g need 1 to 1:0000 after ^a", "pipe p\ngate g need 1 to 1:0000 after g,^a", "pipe p\ntask b\ngate g need 1 to 1:0000 after b,^c\ntask a after d",
		"pipe p\ntask a after a,^b,c,d,e,f,g,h,i,j,k", "pipe p\ntask a\ntask b\ntask c after c,b,a,^need\ngate g need 1 to 1:0000",
	} {
		refusedAt(t, s, api.ErrNone)
	}
}

// P8.1: what is refused

func TestNoLines(t *testing.T) {
	for _, s := range []string{"", "\n", " ", "\n\n", "  ", " \n", "\n ", " \n  \n\n   ", strings.Repeat(" ", 600), strings.Repeat("\n", 600), strings.Repeat(" \n", 300)} {
		refusedAt(t, s+mark, api.ErrNone)
	}
}

func TestFirstLine(t *testing.T) {
	for _, s := range []string{
		"^p", "^task a", "^gate a to 1:0000 need 1", "^p pipe", "^Pipe p", "^PIPE p", "^pip p", "^pipes p", "^pipe,p", "^pipep", "^p\npipe p\ntask a", "^tube", "^tube p q", "^tube P", "\n  ^task a\npipe p", "^pipe: p", "^after a", "^0", "^~", "^tube P q\ntask a",
	} {
		refusedAt(t, s, api.ErrWord)
	}
	for _, s := range []string{
		"^pipe", "^pipe p q", "^pipe P q", "^pipe p Q", "^pipe p p p", "  ^pipe ", "\n^pipe\n", "^pipe\np\ntask a", "^pipe p task a", "^pipe pipe p\ntask a", "^pipe p after p", "^pipe\ntask a", "^pipe P Q\ntasks",
	} {
		refusedAt(t, s, api.ErrForm)
	}
	for _, s := range []string{
		"pipe ^P", "pipe ^abcdefghi", "pipe ^1", "pipe ^p,q", "pipe ^p1", "pipe  ^P\ntask a", "\n pipe ^-\ntask A", "pipe ^a:b", "pipe ^,", "pipe ^aB\nx", "pipe ^PIPE",
	} {
		refusedAt(t, s, api.ErrName)
	}
	for _, s := range []string{"pipe p^", "pipe p\n^", "pipe p ^", " pipe  p \n \n^", "pipe abcdefgh\n\n^", "pipe p" + strings.Repeat(" ", 594) + mark} {
		refusedAt(t, s, api.ErrNone)
	}
}

func TestFirstWords(t *testing.T) {
	const p = "pipe p\n"
	for _, s := range []string{
		"^a", "^tasks a", "^tas a", "^Task a", "^TASK a", "^GATE a", "^gates a", "^gat a", "^pipe a", "^pipe p", "^after a", "^task,a", "^step", "^0", "^retry 1", "^taskgate a",
		"task a\n^pipe p", "task a\n^tasks a", "task a\n^a", "task a\n\n  ^step a after a", "^step A", "^step a b c", "gate a to 1:0000 need 1\n^to 1:0000", "^step\ntask", "^step\ntask a after b", "task b after a\n^step a", "task a\ntask b\n^TASK",
	} {
		refusedAt(t, p+s, api.ErrWord)
	}
	for _, s := range []string{
		"^task", "^gate", " ^task ", "\n^gate\n", "^task\na", "^gate\ntask a", "task a\n^task", "task a\n^gate", "^task\ntask", "^gate\nstep", "task a after b\n^task", "gate a to 1:0000 need 1\n  ^gate\n",
	} {
		refusedAt(t, p+s, api.ErrForm)
	}
}

func TestNamesOfTasks(t *testing.T) {
	for _, kind := range []string{"task", "gate"} {
		for _, name := range []string{"A", "abcdefghi", "a,b", "1", "a1", "-", "task:", "aB", ",", "~", "a.b", "abcdefgh,", "AFTER", "_"} {
			for _, behind := range []string{"", " after b", " step", " retry", "\ntask", " to 1:0000 need 1", " to 9 to 9"} {
				refusedAt(t, "pipe p\n"+kind+" ^"+name+behind, api.ErrName)
				refusedAt(t, "pipe p\ntask a after b\n"+kind+"  ^"+name+behind, api.ErrName)
			}
		}
	}
	for _, s := range []string{
		"task a\ntask ^a", "task a\ntask b\ntask ^a", "task a\ntask b\ntask ^b", "task a\ngate ^a", "gate a to 1:0000 need 1\ntask ^a", "gate a to 1:0000 need 1\ngate ^a to 1:0000 need 1", "task a\ntask b\ngate c need 1 to 1:0000\ntask d\ntask e\ntask f\ntask g\ntask ^a",
		"task abcdefgh\ntask ^abcdefgh", "task a\ntask ^a to", "task a\ntask ^a step", "task a\n task  ^a\ntask", "task a after b\ntask ^a", "task a\ntask b\ntask c\ntask ^c\ntask a", "task p\ntask ^p",
	} {
		refusedAt(t, "pipe p\n"+s, api.ErrOnce)
	}
}

// lines is n lines of tasks, named by letters.
func lines(n int) string {
	s := ""
	for i := range n {
		s += "task " + letter(i) + "\n"
	}
	return s
}

func letter(i int) string { return string([]byte{byte('a' + i)}) }

func TestHowManyTasks(t *testing.T) {
	var all []api.Task
	for n := 1; n <= 8; n++ {
		all = append(all, task(letter(n-1)))
		reads(t, "pipe p\n"+lines(n), one(all...))
		asksPlainly(t, "pipe p\n"+lines(n))
	}
	for _, behind := range []string{"i", "task i", "task", "step", "task a", "task A", "gate i", "gate g to 1:0000 need 1", "task i step", "pipe p", "task i after x", "task i\ntask j"} {
		refusedAt(t, "pipe p\n"+lines(8)+"^"+behind, api.ErrNumber)
		refusedAt(t, "pipe p\ntask x after none\n"+lines(7)+" \n  ^"+behind+"\n", api.ErrNumber)
	}
	refusedAt(t, "pipe p\n"+lines(10)[:8*7]+mark+lines(10)[8*7:], api.ErrNumber)
	gates := strings.ReplaceAll(strings.ReplaceAll(lines(8), "task", "gate"), "\n", " to 1:0000 need 1\n")
	asksPlainly(t, "pipe p\n"+gates)
	refusedAt(t, "pipe p\n"+gates+"^gate i to 1:0000 need 1", api.ErrNumber)
	refusedAt(t, "pipe p\n"+gates+"^task i", api.ErrNumber)
	refusedAt(t, "pipe p\n"+lines(7)+"^step h\ntask i", api.ErrWord)
	refusedAt(t, "pipe p\n"+lines(7)+"task h ^step\ntask i", api.ErrWord)
}

func TestWordsThatMayNotStand(t *testing.T) {
	others := []string{"a", "task", "gate", "pipe", "Retry", "TIME", "times", "tim", "afters", "0", "5", "1:0000", "a,b", ",", "need:", "label", "retry,time", "g", "~"}
	for _, c := range []struct {
		line  string
		words []string
	}{
		{"task g", append(others, "to", "need")},
		{"task g after g", append(others, "to", "need")},
		{"task g time 7 retry 2", append(others, "to", "need")},
		{"gate g", append(others, "retry")},
		{"gate g to 1:0000", append(others, "retry")},
		{"gate g to 1:0000 need 1 after g", append(others, "retry")},
	} {
		for _, word := range c.words {
			for _, behind := range []string{"", " 1", " 1:0000", " g", " " + word, " 1 " + word + " 1", " step", "\nstep", " 9 after A"} {
				refusedAt(t, "pipe p\n"+c.line+" ^"+word+behind, api.ErrWord)
				refusedAt(t, "pipe p\ntask a after b\n"+c.line+"  ^"+word+behind, api.ErrWord)
			}
		}
	}
	// A value that is missing ahead of the next word: that word is the value.
	refusedAt(t, "pipe p\ntask a after time ^5", api.ErrWord)
	refusedAt(t, "pipe p\ntask a retry ^time 5", api.ErrNumber)
	refusedAt(t, "pipe p\ngate a to ^need 1", api.ErrForm)
}

func TestWordsTwiceAndWithoutValue(t *testing.T) {
	values := map[string]string{"after": "g", "time": "7", "retry": "2", "to": "1:0000", "need": "1"}
	for kind, words := range map[string][]string{"task": {"after", "retry", "time"}, "gate": {"after", "time", "to", "need"}} {
		for _, word := range words {
			pair := " " + word + " " + values[word]
			refusedAt(t, "pipe p\n"+kind+" g ^"+word, api.ErrForm)
			refusedAt(t, "pipe p\n"+kind+" g ^"+word+" \n"+kind, api.ErrForm)
			for _, last := range []string{"", " " + values[word], " x", " 9", " A,", " " + word} {
				refusedAt(t, "pipe p\n"+kind+" g"+pair+" ^"+word+last, api.ErrOnce)
				for _, between := range words {
					if between == word {
						continue
					}
					pairBetween := " " + between + " " + values[between]
					refusedAt(t, "pipe p\n"+kind+" g"+pair+pairBetween+" ^"+word+last, api.ErrOnce)
					refusedAt(t, "pipe p\n"+kind+" g"+pair+pairBetween+"  ^"+word+last+"\nstep", api.ErrOnce)
					refusedAt(t, "pipe p\n"+kind+" g"+pairBetween+pair+" ^"+between+last, api.ErrOnce)
					refusedAt(t, "pipe p\n"+kind+" g"+pairBetween+" ^"+word, api.ErrForm)
					// The other line's words are its own.
					refusedAt(t, "pipe p\ntask a time 3 after b retry 1\n"+kind+" g ^"+word+"\nstep", api.ErrForm)
				}
			}
		}
	}
}

func TestNumbers(t *testing.T) {
	odd := []string{"00", "01", "05", "007", "+1", "-1", "-0", "1.0", "1,2", "a", "x5", "5x", "0x1", "1_0", "1e1", "1000000000", "4294967297", "18446744073709551617", "1:0000", "time", "~"}
	for _, c := range []struct {
		ahead, behind string
		lo, hi        int
		take          func(api.Task) int
	}{
		{"task a retry ", "", 0, 5, func(t api.Task) int { return t.Retry }},
		{"task a time 3 retry ", " after a", 0, 5, func(t api.Task) int { return t.Retry }},
		{"task a time ", "", 1, 100, func(t api.Task) int { return t.Time }},
		{"task a retry 3 time ", " after a", 1, 100, func(t api.Task) int { return t.Time }},
		{"gate a to 1:0000 need 2 time ", " after a", 1, 100, func(t api.Task) int { return t.Time }},
		{"gate a to 1:0000 need ", "", 1, 4, func(t api.Task) int { return t.Need }},
		{"gate a need ", " to 1:0000 time 4", 1, 4, func(t api.Task) int { return t.Need }},
	} {
		for n := range 260 {
			if n < c.lo || n > c.hi {
				refusedAt(t, "pipe p\n"+c.ahead+mark+strconv.Itoa(n)+c.behind, api.ErrNumber)
				continue
			}
			s := "pipe p\n" + c.ahead + strconv.Itoa(n) + c.behind
			p, err := Parse(s)
			if err != nil || len(p.Tasks) != 1 || c.take(p.Tasks[0]) != n {
				t.Errorf("%q: %+v %v", s, p, err)
			}
			asksPlainly(t, s)
		}
		for _, s := range odd {
			refusedAt(t, "pipe p\n"+c.ahead+mark+s+c.behind, api.ErrNumber)
			refusedAt(t, "pipe p\n"+c.ahead+mark+s+c.behind+"\nstep", api.ErrNumber)
		}
	}
}

func TestLabels(t *testing.T) {
	for level := range 8 {
		for _, set := range []uint16{0, 1, 2, 9, 10, 15, 255, 0x0f00, 0xabcd, 0xffff} {
			s := "pipe p\ngate a to " + label.Text(of(level, set)) + " need 1"
			reads(t, s, one(gate("a", of(level, set), 1)))
			asksPlainly(t, s)
		}
	}
	for _, s := range []string{"0", "0:", ":0000", "0:000", "0:00000", "8:0000", "9:0000", "-1:0000", "00:0000", "0:FFFF", "0:000g", "0;0000", "secret", "1:0000,2:0000", "~", "a", "need", "7:fffff", "0:+001"} {
		refusedAt(t, "pipe p\ngate a to ^"+s, api.ErrForm)
		refusedAt(t, "pipe p\ngate a to ^"+s+" need 1", api.ErrForm)
		refusedAt(t, "pipe p\ngate a need 1 to ^"+s+" time 0", api.ErrForm)
		refusedAt(t, "pipe p\ntask b after x\ngate a after a need 1 to ^"+s+" step\nstep", api.ErrForm)
	}
}

// What the lexer refuses is refused first, wherever it stands.
func TestBytesAndLengths(t *testing.T) {
	const s = "pipe p\ntask a after b retry 2\ngate b need 1 to 1:0000\n"
	whole, _ := plainParse(s, 600)
	pad := func(n int, with string) string { return s + strings.Repeat(with, n-len(s)) }
	for _, with := range []string{" ", "\n"} {
		reads(t, pad(599, with), whole)
		reads(t, pad(600, with), whole)
		refused(t, pad(601, with), at(600, api.ErrNumber))
		refused(t, pad(1<<20, with), at(600, api.ErrNumber))
		refused(t, strings.Repeat(with, 601), at(600, api.ErrNumber))
		refused(t, "step"+pad(700, with), at(600, api.ErrNumber))
		refused(t, pad(600, with)+"\x00", at(600, api.ErrNumber))
		refused(t, pad(599, with)+"\x00", at(599, api.ErrForm))
		refused(t, "\x00"+pad(600, with), at(600, api.ErrNumber))
	}
	refusedAt(t, pad(596, " ")+"^x y", api.ErrWord)
	refused(t, strings.Repeat("a", 600), at(0, api.ErrWord))
	refused(t, "pipe "+strings.Repeat("a", 595), at(5, api.ErrName))
	for place := range len(s) + 1 {
		for _, c := range []string{"\t", "\r", "\x00", "\x1f", "\x7f", "\x80", "\xff", "é"} {
			refused(t, s[:place]+c+s[place:], at(place, api.ErrForm))
			refused(t, "step"+s[:place]+c+s[place:], at(place+4, api.ErrForm))
		}
	}
}

// Each byte in each place of some texts: put there, for the one there, and none for it.
func TestEachByte(t *testing.T) {
	for _, s := range []string{"pipe p\ntask a time 12\ntask b after a,b retry 1", "pipe q\ngate g to 2:00f3 after g need 3\n"} {
		for place := range s {
			for c := range 256 {
				b := string([]byte{byte(c)})
				asksPlainly(t, s[:place]+b+s[place:])
				asksPlainly(t, s[:place]+b+s[place+1:])
			}
			asksPlainly(t, s[:place]+s[place+1:])
			asksPlainly(t, s[:place])
			asksPlainly(t, s[place:])
		}
	}
}

// P8.1: of two faults the first one

// change is a fault that a text is given: what stands in which places of a line, with the mark where it is told.
type change struct {
	line  int
	words map[int]string
	e     api.Errno
}

// soundLines is a text without faults, by lines and words.
func soundLines() [][]string {
	return [][]string{
		{"pipe", "p"},
		{"task", "a", "after", "b", "retry", "1", "time", "2"},
		{"gate", "b", "time", "3", "to", "1:0000", "need", "2"},
		{"task", "c", "after", "a,b", "time", "4"},
		{"task", "d"}, {"task", "e"}, {"task", "f"}, {"task", "g"}, {"task", "h"},
		{""},
	}
}

// changes is one fault of each kind, in each line that can have it, in the order in which they are told.
func changes() []change {
	none := func(from int, m map[int]string) map[int]string {
		for i := from; i < 8; i++ {
			m[i] = ""
		}
		return m
	}
	return []change{
		{0, map[int]string{0: "^tube"}, api.ErrWord},
		{0, map[int]string{0: "^pipe", 1: ""}, api.ErrForm},
		{0, map[int]string{0: "^pipe", 1: "p q"}, api.ErrForm},
		{0, map[int]string{1: "^P"}, api.ErrName},
		{1, map[int]string{0: "^step"}, api.ErrWord},
		{1, none(1, map[int]string{0: "^task"}), api.ErrForm},
		{1, map[int]string{1: "^A"}, api.ErrName},
		{1, map[int]string{2: "^step"}, api.ErrWord},
		{1, map[int]string{3: "b,^B"}, api.ErrName},
		{1, map[int]string{3: "b,^b"}, api.ErrOnce},
		{1, map[int]string{4: "^need"}, api.ErrWord},
		{1, map[int]string{5: "^6"}, api.ErrNumber},
		{1, map[int]string{6: "^after"}, api.ErrOnce},
		{1, map[int]string{6: "^time", 7: ""}, api.ErrForm},
		{1, map[int]string{7: "^0"}, api.ErrNumber},
		{2, map[int]string{0: "^pipe"}, api.ErrWord},
		{2, none(1, map[int]string{0: "^gate"}), api.ErrForm},
		{2, map[int]string{1: "^a,b"}, api.ErrName},
		{2, map[int]string{1: "^a"}, api.ErrOnce},
		{2, map[int]string{2: "^retry"}, api.ErrWord},
		{2, map[int]string{3: "^101"}, api.ErrNumber},
		{2, map[int]string{4: "^time"}, api.ErrOnce},
		{2, map[int]string{5: "^8:0000"}, api.ErrForm},
		{2, map[int]string{4: "to", 6: "^to"}, api.ErrOnce},
		{2, map[int]string{6: "^need", 7: ""}, api.ErrForm},
		{2, map[int]string{7: "^5"}, api.ErrNumber},
		{2, map[int]string{0: "^gate", 4: "", 5: ""}, api.ErrForm},
		{2, map[int]string{0: "^gate", 6: "", 7: ""}, api.ErrForm},
		{2, map[int]string{0: "^gate", 4: "", 5: "", 6: "", 7: ""}, api.ErrForm},
		{3, map[int]string{1: "^a"}, api.ErrOnce},
		{3, map[int]string{2: "^after", 3: "", 4: "", 5: ""}, api.ErrForm},
		{3, map[int]string{4: "^to"}, api.ErrWord},
		{3, map[int]string{5: "^07"}, api.ErrNumber},
		{8, map[int]string{0: "^Task"}, api.ErrWord},
		{8, map[int]string{0: "^task", 1: ""}, api.ErrForm},
		{8, map[int]string{1: "^a"}, api.ErrOnce},
		{9, map[int]string{0: "^step"}, api.ErrNumber},
		{9, map[int]string{0: "^task i"}, api.ErrNumber},
		{1, map[int]string{3: "b,^x,a,y"}, api.ErrNone},
		{3, map[int]string{3: "^x,a,y"}, api.ErrNone},
	}
}

// marked is the sound text with changes; of these the first one's mark alone. false: they want the same place.
func marked(first change, others ...change) (string, bool) {
	text := soundLines()
	taken := map[[2]int]bool{}
	put := func(c change, show bool) bool {
		for i, word := range c.words {
			key := [2]int{c.line, i}
			if taken[key] {
				return false
			}
			taken[key] = true
			if !show {
				word = strings.ReplaceAll(word, mark, "")
			}
			if i < len(text[c.line]) {
				text[c.line][i] = word
			}
		}
		return true
	}
	ok := put(first, true)
	for _, c := range others {
		ok = put(c, false) && ok
	}
	s := ""
	for _, words := range text {
		s += strings.Join(words, " ") + "\n"
	}
	return s, ok
}

func TestOfTwoFaultsTheFirst(t *testing.T) {
	list := changes()
	pairs := 0
	for i, first := range list {
		s, _ := marked(first)
		refusedAt(t, s, first.e)
		for _, c := range []string{"\x00", "\t"} {
			whole := strings.ReplaceAll(s, mark, "")
			refused(t, whole+c, at(len(whole), api.ErrForm))
			refused(t, whole+strings.Repeat(" ", 600)+c, at(600, api.ErrNumber))
		}
		for _, second := range list[i+1:] {
			if s, ok := marked(first, second); ok {
				refusedAt(t, s, first.e)
				pairs++
			}
		}
	}
	if pairs < 600 {
		t.Error("hardly any pairs:", pairs)
	}
}

// Two faults that want the same place.
func TestTwoFaultsInOnePlace(t *testing.T) {
	for s, e := range map[string]api.Errno{
		"^tube":                                     api.ErrWord,
		"^tube p q":                                 api.ErrWord,
		"^pipe P q":                                 api.ErrForm,
		"pipe ^P\n":                                 api.ErrName,
		"pipe p\n^step":                             api.ErrWord,
		"pipe p\n^step A":                           api.ErrWord,
		"pipe p\n^gate":                             api.ErrForm,
		"pipe p\ntask a\ntask ^A":                   api.ErrName,
		"pipe p\ngate ^A":                           api.ErrName,
		"pipe p\n^gate a after b":                   api.ErrForm,
		"pipe p\ngate a after b,^b":                 api.ErrOnce,
		"pipe p\ngate a ^step":                      api.ErrWord,
		"pipe p\ngate a ^to":                        api.ErrForm,
		"pipe p\ngate a to ^x":                      api.ErrForm,
		"pipe p\ngate a need ^0":                    api.ErrNumber,
		"pipe p\n^gate a after x\ntask a":           api.ErrForm,
		"pipe p\ntask a ^to to":                     api.ErrWord,
		"pipe p\ntask a time 1 ^time":               api.ErrOnce,
		"pipe p\ntask a time 1 ^time 0":             api.ErrOnce,
		"pipe p\ntask a after b ^after B":           api.ErrOnce,
		"pipe p\ntask a after b ^after":             api.ErrOnce,
		"pipe p\ntask a after b,b,^B":               api.ErrName,
		"pipe p\ntask a after b,b,^":                api.ErrName,
		"pipe p\ntask a after ^B,b,b":               api.ErrName,
		"pipe p\ntask a after x,^x,y":               api.ErrOnce,
		"pipe p\ntask a after ^x,y\ntask b after z": api.ErrNone,
		"pipe p\ntask a after b\ntask b after ^z":   api.ErrNone,
		"pipe p\ntask a after x\n^step":             api.ErrWord,
		"pipe p\ntask a after x\ntask ^a":           api.ErrOnce,
		"pipe p\ntask a after x\n^gate b":           api.ErrForm,
		"pipe p\n^gate b\ngate A":                   api.ErrForm,
		"pipe p\n^gate b\nstep":                     api.ErrForm,
	} {
		refusedAt(t, s, e)
	}
}

// What is answered is new memory

// inMemoryOf: does a text stand in another one's memory?
func inMemoryOf(s, other string) bool {
	first := uintptr(unsafe.Pointer(unsafe.StringData(other)))
	at := uintptr(unsafe.Pointer(unsafe.StringData(s)))
	return len(s) > 0 && first <= at && at < first+uintptr(len(other))
}

func TestAnswersAreNewMemory(t *testing.T) {
	s := strings.Clone("pipe main\ntask ab after ab,cd\ntask cd after cd,ab\ngate ef after ab need 1 to 1:0000\ntask gh")
	p, err := Parse(s)
	if err != nil {
		t.Fatal(err)
	}
	names := []string{p.Name}
	for _, task := range p.Tasks {
		names = append(names, task.Name)
	}
	text, _ := Print(p)
	for _, name := range names {
		if inMemoryOf(name, s) || inMemoryOf(name, text) {
			t.Errorf("%q", name)
		}
	}
}

// What is written into one list of an answer, its spare room too, moves no other one, nor a later answer.
func TestListsByThemselves(t *testing.T) {
	const s = "pipe p\ntask a after a,b,c\ntask b after d\ntask c\ntask d after c,a\ngate e after b to 1:0000 need 1"
	want, _ := plainParse(s, 600)
	for i := range want.Tasks {
		p, err := Parse(s)
		if err != nil {
			t.Fatal(err)
		}
		spare := p.Tasks[i].After[:cap(p.Tasks[i].After)]
		for j := range spare {
			spare[j] = 99
		}
		for j := range p.Tasks {
			if j != i && !slices.Equal(p.Tasks[j].After, want.Tasks[j].After) {
				t.Errorf("%d: %v, not %v", j, p.Tasks[j].After, want.Tasks[j].After)
			}
		}
		tasks := p.Tasks[:cap(p.Tasks)]
		for j := range tasks {
			tasks[j] = api.Task{}
		}
		reads(t, s, want)
	}
}

// What is written into an error that was answered is in no later one.
func TestErrorsByThemselves(t *testing.T) {
	list := []string{"", "step", "pipe", "pipe P", "pipe p", "pipe p\nstep", "pipe p\ntask", "pipe p\ntask A", "pipe p\ntask a\ntask a", "pipe p\ntask a to", "pipe p\ntask a time", "pipe p\ntask a time 0", "pipe p\ntask a after a,a", "pipe p\ngate a", "pipe p\ntask a after b", "\x00", strings.Repeat("a", 601)}
	for range 2 {
		for _, s := range list {
			_, want := plainParse(s, 600)
			refused(t, s, want)
			_, err := Parse(s)
			var f *api.Fault
			if !errors.As(err, &f) {
				t.Fatal(s, err)
			}
			*f = api.Fault{At: 77, Err: api.ErrDown}
		}
	}
}

// roomy is a pipeline with spare room in its lists, and what stands there.
func roomy() api.Pipeline {
	after := append(make([]int, 0, 6), 1, 0)
	tasks := append(make([]api.Task, 0, 5), api.Task{Name: "a", After: after, Time: 3, Retry: 1}, gate("b", of(1, 1), 2, 0))
	tasks[:5][3] = task("spare", 7)
	after[:6][4] = 44
	return one(tasks...)
}

func TestWhatIsHandedInStaysAsItIs(t *testing.T) {
	p, q := roomy(), roomy()
	p.Tasks, q.Tasks = p.Tasks[:2:5], q.Tasks[:2:5]
	Print(p)
	Right(p)
	Same(p, q)
	Same(p, api.Pipeline{})
	for _, got := range []api.Pipeline{p, q} {
		fresh := roomy()
		for i := range fresh.Tasks[:cap(fresh.Tasks)] {
			a, b := got.Tasks[:5][i], fresh.Tasks[:5][i]
			if !plainSame(one(a), one(b)) || !slices.Equal(a.After[:cap(a.After)], b.After[:cap(b.After)]) {
				t.Errorf("%+v, not %+v", a, b)
			}
		}
	}
}

// P8.2: Right

// sound is a pipeline that may be: three tasks and a gate.
func sound() api.Pipeline {
	return api.Pipeline{Name: "main", Tasks: []api.Task{
		{Name: "a", Time: 1},
		{Name: "bb", After: []int{3, 0, 1}, Retry: 5, Time: 100},
		{Name: "abcdefgh", After: []int{2, 0, 1, 3}, Need: 4, Time: 7, To: of(7, 0xffff)},
		{Name: "d", Time: 5, Retry: 1},
	}}
}

// asksRight asks whether a sound pipeline, changed, may be.
func asksRight(t *testing.T, told string, want bool, changed func(p *api.Pipeline)) {
	t.Helper()
	p := sound()
	changed(&p)
	if Right(p) != want {
		t.Errorf("%s: %v of %+v", told, !want, p)
	}
	s, e := Print(p)
	if want && (e != api.OK || s == "") || !want && (e != api.ErrArg || s != "") {
		t.Errorf("%s: %q %v of %+v", told, s, e, p)
	}
	asksOf(t, p)
}

func TestRightNames(t *testing.T) {
	for name, want := range map[string]bool{
		"": false, "x": true, "z": true, "xy": true, "stuvwxyz": true, "stuvwxyzz": false, strings.Repeat("x", 16): false, strings.Repeat("x", 1<<16): false, "X": false, "xY": false, "x1": false, "1": false, " ": false, "x ": false, " x": false, "x y": false, "x,y": false, ",": false,
		"x\n": false, "\nx": false, "x\ntask y": false, "x time 5": false, "x\x00": false, "é": false, "xé": false, "\xff": false, "`": false, "{": false, "pipe": true, "task": true, "gate": true, "after": true, "retry": true, "time": true, "to": true, "need": true,
	} {
		asksRight(t, name, want, func(p *api.Pipeline) { p.Name = name })
		for i := range 4 {
			asksRight(t, name, want, func(p *api.Pipeline) { p.Tasks[i].Name = name })
		}
	}
	for c := range 256 {
		name := "x" + string([]byte{byte(c)})
		asksRight(t, name, 'a' <= c && c <= 'z', func(p *api.Pipeline) { p.Name = name })
		asksRight(t, name, 'a' <= c && c <= 'z', func(p *api.Pipeline) { p.Tasks[2].Name = name })
	}
	for i := range 4 {
		asksRight(t, "as the pipeline", true, func(p *api.Pipeline) { p.Name = p.Tasks[i].Name })
		for j := range 4 {
			asksRight(t, "two of one name", i == j, func(p *api.Pipeline) { p.Tasks[i].Name = p.Tasks[j].Name })
		}
	}
}

func TestRightHowMany(t *testing.T) {
	for n := range 20 {
		asksRight(t, "so many", 1 <= n && n <= 8, func(p *api.Pipeline) {
			p.Tasks = nil
			for i := range n {
				p.Tasks = append(p.Tasks, task(letter(i)))
			}
		})
		asksRight(t, "so many gates", 1 <= n && n <= 8, func(p *api.Pipeline) {
			p.Tasks = nil
			for i := range n {
				p.Tasks = append(p.Tasks, gate(letter(i), of(1, 0), 1))
			}
		})
	}
	asksRight(t, "none", false, func(p *api.Pipeline) { p.Tasks = []api.Task{} })
	if Right(api.Pipeline{}) {
		t.Error("nothing")
	}
}

func TestRightAfter(t *testing.T) {
	for i := range 4 {
		for _, place := range []int{math.MinInt, -1 << 32, -256, -2, -1, 0, 1, 2, 3, 4, 5, 8, 256, 1 << 32, math.MaxInt} {
			is := 0 <= place && place < 4
			asksRight(t, "place", is, func(p *api.Pipeline) { p.Tasks[i].After = []int{place} })
			for other := range 4 {
				asksRight(t, "place behind another", is && place != other, func(p *api.Pipeline) { p.Tasks[i].After = []int{other, place} })
				asksRight(t, "place ahead of another", is && place != other, func(p *api.Pipeline) { p.Tasks[i].After = []int{place, other} })
				asksRight(t, "place, and others between", is && place != other && place != 1 && other != 1, func(p *api.Pipeline) { p.Tasks[i].After = []int{place, 1, other} })
			}
		}
		for _, after := range [][]int{nil, {}, {0, 1, 2, 3}, {3, 2, 1, 0}, {i}} {
			asksRight(t, "after", true, func(p *api.Pipeline) { p.Tasks[i].After = after })
		}
		asksRight(t, "all, and one twice", false, func(p *api.Pipeline) { p.Tasks[i].After = []int{0, 1, 2, 3, 0} })
	}
}

func TestRightNumbers(t *testing.T) {
	for n := -300; n < 300; n++ {
		rightNumber(t, n)
	}
	for _, n := range []int{math.MinInt, math.MinInt + 1, -1 << 32, 1 << 32, 1<<32 + 1, 1<<32 + 4, 1<<16 + 1, math.MaxInt} {
		rightNumber(t, n)
	}
}

func rightNumber(t *testing.T, n int) {
	t.Helper()
	asksRight(t, "Time", 1 <= n && n <= 100, func(p *api.Pipeline) { p.Tasks[0].Time = n })
	asksRight(t, "a gate's Time", 1 <= n && n <= 100, func(p *api.Pipeline) { p.Tasks[2].Time = n })
	asksRight(t, "Retry", 0 <= n && n <= 5, func(p *api.Pipeline) { p.Tasks[3].Retry = n })
	asksRight(t, "a gate's Retry", n == 0, func(p *api.Pipeline) { p.Tasks[2].Retry = n })
	asksRight(t, "Need", 1 <= n && n <= 4, func(p *api.Pipeline) { p.Tasks[2].Need = n })
	asksRight(t, "Need of what has no To", 0 <= n && n <= 4, func(p *api.Pipeline) { p.Tasks[0].Need = n })
	asksRight(t, "Need of what has a Retry", n == 0, func(p *api.Pipeline) { p.Tasks[3].Need = n })
	asksRight(t, "a gate's Level", 0 <= n && n <= 7, func(p *api.Pipeline) { p.Tasks[2].To.Level = n })
	asksRight(t, "a gate's Level alone", 0 <= n && n <= 7, func(p *api.Pipeline) { p.Tasks[2].To = of(n, 0) })
	asksRight(t, "a task's Level", n == 0, func(p *api.Pipeline) { p.Tasks[1].To.Level = n })
	asksRight(t, "a task's Set", uint16(n) == 0, func(p *api.Pipeline) { p.Tasks[3].To.Set = uint16(n) })
	asksRight(t, "a gate's Set", true, func(p *api.Pipeline) { p.Tasks[2].To.Set = uint16(n) })
}

// Whatever is handed in, an answer is there at once.
func TestRightOfMuch(t *testing.T) {
	const much = 1 << 21
	up := make([]int, much)
	for i := range up {
		up[i] = i
	}
	asksMuch := func(p api.Pipeline) {
		t.Helper()
		s, e := Print(p)
		if Right(p) || s != "" || e != api.ErrArg || !Same(p, p) {
			t.Error(Right(p), len(s), e)
		}
	}
	long := strings.Repeat("a", much)
	asksMuch(one(task("a", up...)))
	asksMuch(one(task("a", make([]int, much)...)))
	asksMuch(one(make([]api.Task, much)...))
	asksMuch(api.Pipeline{Name: long, Tasks: []api.Task{task("a")}})
	asksMuch(one(task(long, 0, 0), task(long)))
	p := sound()
	for i := range p.Tasks {
		p.Tasks[i].After = up
	}
	asksMuch(p)
}

// P8.2: Print

func TestPrint(t *testing.T) {
	for _, c := range []struct {
		p    api.Pipeline
		want string
	}{
		{one(task("a")), "pipe p\ntask a time 5\n"},
		{one(api.Task{Name: "a", Time: 100}), "pipe p\ntask a time 100\n"},
		{one(api.Task{Name: "a", Time: 1, Retry: 1}), "pipe p\ntask a retry 1 time 1\n"},
		{one(api.Task{Name: "a", After: []int{}, Time: 1, Retry: 5}), "pipe p\ntask a retry 5 time 1\n"},
		{one(task("a", 0)), "pipe p\ntask a after a time 5\n"},
		{one(task("a", 1, 0), task("b")), "pipe p\ntask a after b,a time 5\ntask b time 5\n"},
		{one(gate("g", of(0, 0), 1)), "pipe p\ngate g to 0:0000 need 1 time 5\n"},
		{one(gate("g", of(7, 0xabc), 4, 0)), "pipe p\ngate g after g to 7:0abc need 4 time 5\n"},
		{sound(), "pipe main\ntask a time 1\ntask bb after d,a,bb retry 5 time 100\ngate abcdefgh after abcdefgh,a,bb,d to 7:ffff need 4 time 7\ntask d retry 1 time 5\n"},
	} {
		if s, e := Print(c.p); s != c.want || e != api.OK {
			t.Errorf("%+v: %q %v, not %q", c.p, s, e, c.want)
		}
		reads(t, c.want, c.p)
		asksOf(t, c.p)
	}
}

// sized is a pipeline whose text has just so many bytes.
func sized(t *testing.T, size int) api.Pipeline {
	t.Helper()
	p := api.Pipeline{Name: "p"}
	for i := range 8 {
		p.Tasks = append(p.Tasks, api.Task{Name: letter(i), Time: 10})
	}
	left := func() int { return size - len(plainText(p)) }
	for i := range p.Tasks {
		for place := 7; place >= 0 && left() > 40; place-- {
			p.Tasks[i].After = append(p.Tasks[i].After, place)
		}
	}
	for i := range p.Tasks {
		for name := &p.Tasks[i].Name; len(*name) < 8 && left() > 0; {
			shorter := *name
			*name += "z"
			if left() < 0 { // It stands in several lines.
				*name = shorter
				break
			}
		}
	}
	for i := range p.Tasks {
		if left() > 0 {
			p.Tasks[i].Time = 100
		}
	}
	if left() != 0 {
		t.Fatalf("%d bytes, not %d", len(plainText(p)), size)
	}
	return p
}

func TestTheLongestTexts(t *testing.T) {
	for _, size := range []int{300, 400, 598, 599, 600} {
		p := sized(t, size)
		s, e := Print(p)
		if len(s) != size || e != api.OK || !Right(p) {
			t.Errorf("%d: %q %v %v", size, s, e, Right(p))
		}
		reads(t, s, p)
		asksOf(t, p)
	}
	for _, size := range []int{601, 602, 603, 650, 700} {
		p := sized(t, size)
		if s, e := Print(p); s != "" || e != api.ErrFull || !Right(p) {
			t.Errorf("%d: %q %v %v", size, s, e, Right(p))
		}
		asksOf(t, p)
	}
	// The longest of all.
	p := api.Pipeline{Name: "abcdefgh"}
	for i := range 8 {
		p.Tasks = append(p.Tasks, api.Task{Name: strings.Repeat(letter(i), 8), After: []int{0, 1, 2, 3, 4, 5, 6, 7}, Time: 100, Need: 4, To: of(7, 0xffff)})
	}
	if s, e := Print(p); s != "" || e != api.ErrFull || !Right(p) {
		t.Errorf("%q %v %v", s, e, Right(p))
	}
	p.Tasks[7].Retry = 1
	if s, e := Print(p); s != "" || e != api.ErrArg || Right(p) {
		t.Errorf("%q %v %v", s, e, Right(p))
	}
}

// P8.2: Same

func TestSame(t *testing.T) {
	for i, changed := range []func(p *api.Pipeline){
		func(p *api.Pipeline) { p.Name = "" },
		func(p *api.Pipeline) { p.Name = "mainn" },
		func(p *api.Pipeline) { p.Name = "nain" },
		func(p *api.Pipeline) { p.Tasks = nil },
		func(p *api.Pipeline) { p.Tasks = p.Tasks[:3] },
		func(p *api.Pipeline) { p.Tasks = p.Tasks[1:] },
		func(p *api.Pipeline) { p.Tasks = append(p.Tasks, task("e")) },
		func(p *api.Pipeline) { p.Tasks = append(p.Tasks, api.Task{}) },
		func(p *api.Pipeline) { p.Tasks[0], p.Tasks[3] = p.Tasks[3], p.Tasks[0] },
		func(p *api.Pipeline) { p.Tasks[0].Name = "b" },
		func(p *api.Pipeline) { p.Tasks[3].Name = "D" },
		func(p *api.Pipeline) { p.Tasks[0].After = []int{0} },
		func(p *api.Pipeline) { p.Tasks[1].After = nil },
		func(p *api.Pipeline) { p.Tasks[1].After = []int{} },
		func(p *api.Pipeline) { p.Tasks[1].After = []int{3, 0} },
		func(p *api.Pipeline) { p.Tasks[1].After = []int{3, 0, 1, 2} },
		func(p *api.Pipeline) { p.Tasks[1].After = []int{3, 1, 0} },
		func(p *api.Pipeline) { p.Tasks[1].After = []int{0, 1, 3} },
		func(p *api.Pipeline) { p.Tasks[1].After = []int{3, 0, 2} },
		func(p *api.Pipeline) { p.Tasks[1].Retry = 4 },
		func(p *api.Pipeline) { p.Tasks[3].Retry = -1 },
		func(p *api.Pipeline) { p.Tasks[2].Retry = 1 },
		func(p *api.Pipeline) { p.Tasks[0].Time = 2 },
		func(p *api.Pipeline) { p.Tasks[2].Time = 8 },
		func(p *api.Pipeline) { p.Tasks[2].Need = 3 },
		func(p *api.Pipeline) { p.Tasks[0].Need = 1 },
		func(p *api.Pipeline) { p.Tasks[3].Need = -1 },
		func(p *api.Pipeline) { p.Tasks[2].To.Level = 6 },
		func(p *api.Pipeline) { p.Tasks[2].To.Set = 0x7fff },
		func(p *api.Pipeline) { p.Tasks[0].To.Level = 1 },
		func(p *api.Pipeline) { p.Tasks[0].To.Set = 1 },
	} {
		p := sound()
		changed(&p)
		for _, other := range []api.Pipeline{sound(), {}, one(task("a"))} {
			if Same(p, other) || Same(other, p) {
				t.Error(i, p, other)
			}
		}
		again := sound()
		changed(&again)
		if !Same(p, again) || !Same(again, p) || !Same(p, p) {
			t.Error(i, p)
		}
	}
	if !Same(sound(), sound()) || !Same(api.Pipeline{}, api.Pipeline{}) {
		t.Error("not as itself")
	}
}

func TestSameOfNilAndEmpty(t *testing.T) {
	for _, lists := range [][2][]int{{nil, {}}, {nil, make([]int, 0, 9)}, {{}, make([]int, 0, 9)}, {{1}, append(make([]int, 0, 9), 1)}} {
		p, q := sound(), sound()
		p.Tasks[0].After, q.Tasks[0].After = lists[0], lists[1]
		if !Same(p, q) || !Same(q, p) {
			t.Error(lists)
		}
	}
	p, q := api.Pipeline{Name: "p"}, api.Pipeline{Name: "p", Tasks: []api.Task{}}
	if !Same(p, q) || !Same(q, p) {
		t.Error("without tasks")
	}
}

// P8.3

func TestWhatIsPrintedIsReadAsItWas(t *testing.T) {
	list := []api.Pipeline{sound(), one(task("a")), one(gate("a", of(0, 0), 1)), sized(t, 600), sized(t, 455)}
	for need := 1; need <= 4; need++ {
		for level := range 8 {
			for _, time := range []int{1, 2, 5, 9, 10, 99, 100} {
				p := one(gate("a", of(level, uint16(0x1111*level)), need, 1), task("b", 1, 0))
				p.Tasks[0].Time, p.Tasks[1].Time, p.Tasks[1].Retry = time, 101-time, need
				list = append(list, p)
			}
		}
	}
	for _, p := range list {
		s, e := Print(p)
		got, err := Parse(s)
		if e != api.OK || err != nil || !Same(got, p) || !plainSame(got, p) {
			t.Errorf("%+v: %q %v, %+v %v", p, s, e, got, err)
		}
		if again, e := Print(got); again != s || e != api.OK {
			t.Errorf("%q, then %q %v", s, again, e)
		}
	}
}
