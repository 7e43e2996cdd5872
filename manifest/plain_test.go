package manifest

import (
	"fmt"
	"math/rand"
	"reflect"
	"regexp"
	"slices"
	"strconv"
	"strings"
	"testing"

	"lockage/api"
)

// The plain way of reading: all that is wrong in a text is gathered, each with its turn; the answer is the one whose turn is first.

var (
	noByte     = regexp.MustCompile(`[^\n -~]`)
	lineText   = regexp.MustCompile(`[^\n]+`)
	wordText   = regexp.MustCompile(`[!-~]+`)
	nameText   = regexp.MustCompile(`\A[a-z]{1,8}\z`)
	valueTexts = map[string]*regexp.Regexp{
		"after": regexp.MustCompile(`\A[a-z]{1,8}(,[a-z]{1,8})*\z`),
		"retry": regexp.MustCompile(`\A[0-5]\z`),
		"time":  regexp.MustCompile(`\A([1-9][0-9]?|100)\z`),
		"to":    regexp.MustCompile(`\A[0-7]:[0-9a-f]{4}\z`),
		"need":  regexp.MustCompile(`\A[1-4]\z`),
	}
	valueErrors = map[string]api.Errno{"retry": api.ErrNumber, "time": api.ErrNumber, "need": api.ErrNumber, "to": api.ErrForm}
	wordsOfKind = map[string][]string{"task": {"after", "retry", "time"}, "gate": {"after", "time", "to", "need"}}
)

// Turns of what is told at a line's end, behind all lines, and there of what is looked for last.
const (
	atLineEnd = 999
	atTextEnd = 1000 * 1000
	atLast    = 2 * atTextEnd
)

type plainWord struct {
	text string
	at   int
}

// wrong is a fault: its turn, and a name for its kind.
type wrong struct {
	line, turn, part int
	refusal
	kind string
}

type plainReader struct {
	lines  [][]plainWord
	wrongs []wrong
	places map[string]int
	tasks  []api.Task
}

func plainWords(s string) [][]plainWord {
	var lines [][]plainWord
	for _, l := range lineText.FindAllStringIndex(s, -1) {
		var words []plainWord
		for _, w := range wordText.FindAllStringIndex(s[l[0]:l[1]], -1) {
			words = append(words, plainWord{s[l[0]+w[0] : l[0]+w[1]], l[0] + w[0]})
		}
		if words != nil {
			lines = append(lines, words)
		}
	}
	return lines
}

// note is a fault, if it is so: of a line, at the turn of a word, and there as the one of that part.
func (r *plainReader) note(is bool, line, turn, part, place int, e api.Errno, kind string) {
	if is {
		r.wrongs = append(r.wrongs, wrong{line, turn, part, at(place, e), kind})
	}
}

func (r *plainReader) head() {
	words := r.lines[0]
	r.note(words[0].text != "pipe", 0, 0, 0, words[0].at, api.ErrWord, "no pipe")
	r.note(len(words) != 2, 0, 0, 1, words[0].at, api.ErrForm, "not two words")
	if len(words) > 1 {
		r.note(!nameText.MatchString(words[1].text), 0, 1, 0, words[1].at, api.ErrName, "pipe's name")
	}
}

func (r *plainReader) line(n int) {
	words := r.lines[n]
	kind := words[0].text
	r.note(n > 8, n, 0, 0, words[0].at, api.ErrNumber, "too many")
	r.note(kind != "task" && kind != "gate", n, 0, 1, words[0].at, api.ErrWord, "line's word")
	r.note(len(words) == 1, n, 0, 2, words[0].at, api.ErrForm, "one word")
	if len(words) == 1 {
		return
	}
	r.note(!nameText.MatchString(words[1].text), n, 1, 0, words[1].at, api.ErrName, "task's name")
	for _, other := range r.lines[1:n] {
		r.note(len(other) > 1 && other[1].text == words[1].text, n, 1, 1, words[1].at, api.ErrOnce, "name twice")
	}
	had := map[string]bool{}
	task := api.Task{Name: words[1].text, Time: 5}
	for i := 2; i < len(words); i += 2 {
		word := words[i].text
		r.note(!slices.Contains(wordsOfKind[kind], word), n, i, 0, words[i].at, api.ErrWord, "pair's word")
		r.note(had[word], n, i, 1, words[i].at, api.ErrOnce, "word twice")
		r.note(i+1 == len(words), n, i, 2, words[i].at, api.ErrForm, "no value")
		had[word] = true
		if i+1 < len(words) {
			r.value(n, i+1, word, words[i+1], &task)
		}
	}
	r.note(kind == "gate" && !(had["to"] && had["need"]), n, atLineEnd, 0, words[0].at, api.ErrForm, "no to or need")
	r.tasks = append(r.tasks, task)
}

func (r *plainReader) value(n, turn int, word string, v plainWord, task *api.Task) {
	pattern := valueTexts[word]
	if pattern == nil {
		return
	}
	if word == "after" {
		r.after(n, turn, v, task)
		return
	}
	r.note(!pattern.MatchString(v.text), n, turn, 0, v.at, valueErrors[word], word+"'s value")
	number, _ := strconv.Atoi(v.text)
	switch word {
	case "retry":
		task.Retry = number
	case "time":
		task.Time = number
	case "need":
		task.Need = number
	case "to":
		fmt.Sscanf(v.text, "%d:%x", &task.To.Level, &task.To.Set)
	}
}

func (r *plainReader) after(n, turn int, v plainWord, task *api.Task) {
	place := v.at
	had := map[string]bool{}
	for i, name := range strings.Split(v.text, ",") {
		r.note(!nameText.MatchString(name), n, turn, i, place, api.ErrName, "after's name")
		r.note(had[name], n, turn, 1000+i, place, api.ErrOnce, "after's name twice")
		to, is := r.places[name]
		r.note(!is, atLast+n, turn, i, place, api.ErrNone, "after's name is none's")
		task.After = append(task.After, to)
		had[name] = true
		place += len(name) + 1
	}
}

// plainWrongs is all that is wrong in a text of so many bytes at most, in the order of the turns; and the pipeline, if that is nothing.
func plainWrongs(s string, most int) (api.Pipeline, []wrong) {
	r := &plainReader{places: map[string]int{}}
	r.note(len(s) > most, -2, 0, 0, most, api.ErrNumber, "too long")
	if found := noByte.FindStringIndex(s); found != nil {
		r.note(true, -1, 0, 0, found[0], api.ErrForm, "byte")
	}
	if len(r.wrongs) == 0 {
		r.lines = plainWords(s)
	}
	r.note(len(r.lines) == 0, 0, 0, 0, len(s), api.ErrNone, "no lines")
	r.note(len(r.lines) < 2, atTextEnd, 0, 0, len(s), api.ErrNone, "no tasks")
	for n, words := range r.lines {
		if n > 0 && len(words) > 1 {
			r.places[words[1].text] = n - 1
		}
	}
	for n := range r.lines {
		if n == 0 {
			r.head()
		} else {
			r.line(n)
		}
	}
	if len(r.wrongs) > 0 {
		slices.SortStableFunc(r.wrongs, func(a, b wrong) int {
			return slices.Compare([]int{a.line, a.turn, a.part}, []int{b.line, b.turn, b.part})
		})
		return api.Pipeline{}, r.wrongs
	}
	return api.Pipeline{Name: r.lines[0][1].text, Tasks: r.tasks}, nil
}

func plainParse(s string, most int) (api.Pipeline, refusal) {
	p, wrongs := plainWrongs(s, most)
	if len(wrongs) > 0 {
		return p, wrongs[0].refusal
	}
	return p, fine
}

// plainText is a pipeline's text, also of one that may not be: of places that are none's a word that is no name.
func plainText(p api.Pipeline) string {
	s := "pipe " + p.Name + "\n"
	for _, t := range p.Tasks {
		kind, after, retry, gate := "task", "", "", ""
		for i, place := range t.After {
			name := "?"
			if 0 <= place && place < len(p.Tasks) {
				name = p.Tasks[place].Name
			}
			after += []string{" after ", ","}[min(i, 1)] + name
		}
		if t.Retry != 0 {
			retry = fmt.Sprintf(" retry %d", t.Retry)
		}
		if t.Need != 0 {
			kind, gate = "gate", fmt.Sprintf(" to %d:%04x need %d", t.To.Level, t.To.Set, t.Need)
		}
		s += fmt.Sprintf("%s %s%s%s%s time %d\n", kind, t.Name, after, retry, gate, t.Time)
	}
	return s
}

// plainSame asks, field by field, in which lists that are nil are as empty ones are.
func plainSame(a, b api.Pipeline) bool { return reflect.DeepEqual(plainCopy(a), plainCopy(b)) }

func plainCopy(p api.Pipeline) api.Pipeline {
	p.Tasks = append([]api.Task{}, p.Tasks...)
	for i := range p.Tasks {
		p.Tasks[i].After = append([]int{}, p.Tasks[i].After...)
	}
	return p
}

// plainRight is the document's words: is there a text, were texts as long as one likes, whose pipeline is p?
func plainRight(p api.Pipeline) bool {
	read, wrong := plainParse(plainText(p), 1<<30)
	return wrong == fine && plainSame(read, p)
}

// plainPrint is what Print is to answer.
func plainPrint(p api.Pipeline) (string, api.Errno) {
	s := plainText(p)
	switch {
	case !plainRight(p):
		return "", api.ErrArg
	case len(s) > 600:
		return "", api.ErrFull
	}
	return s, api.OK
}

// asksPlainly holds Parse against the plain way, and, of what it reads, all other calls.
func asksPlainly(t *testing.T, s string) {
	t.Helper()
	want, wrong := plainParse(s, 600)
	if wrong != fine {
		refused(t, s, wrong)
		return
	}
	reads(t, s, want)
	asksOf(t, want)
}

// asksOf holds Right, Print and Same of a pipeline against the plain ways, and what is printed against what is read of it.
func asksOf(t *testing.T, p api.Pipeline) {
	t.Helper()
	may := plainRight(p)
	if Right(p) != may {
		t.Errorf("%+v: may it be? %v", p, !may)
	}
	want, e := plainPrint(p)
	if got, is := Print(p); got != want || is != e {
		t.Errorf("%+v: %q %v, not %q %v", p, got, is, want, e)
	}
	if e == api.OK {
		reads(t, want, p)
	}
	if !Same(p, plainCopy(p)) || !Same(plainCopy(p), p) {
		t.Errorf("%+v: not as itself", p)
	}
}

// Random texts and pipelines

func pick[T any](r *rand.Rand, list ...T) T { return list[r.Intn(len(list))] }

func anyName(r *rand.Rand) string {
	return pick(r, "a", "b", "c", "ab", "abcdefgh", "task", "pipe", "time", "z")
}

// anyRight is a pipeline that may be; one of eight is so great that its text may be too long.
func anyRight(r *rand.Rand) api.Pipeline {
	p := api.Pipeline{Name: anyName(r)}
	names := []string{"a", "b", "c", "ab", "abcdefgh", "task", "after", "to", "zzzzzzzz", "pipe", "gate", "m"}
	n, longest := 1+r.Intn(pick(r, 2, 4, 8)), ""
	if r.Intn(8) == 0 {
		n, longest = 8, pick(r, "aaaa", "aaaaaaa")
	}
	r.Shuffle(len(names), func(i, j int) { names[i], names[j] = names[j], names[i] })
	for i := range n {
		task := api.Task{Name: names[i], Time: pick(r, 1, 5, 5, 7, 99, 100)}
		after := r.Intn(n+1) * r.Intn(2)
		if longest != "" {
			task.Name, after = longest+letter(i), 4+r.Intn(5)
		}
		for _, place := range r.Perm(n)[:after] {
			task.After = append(task.After, place)
		}
		if r.Intn(3) == 0 {
			task.Need, task.To = 1+r.Intn(4), api.Label{Level: r.Intn(8), Set: uint16(pick(r, 0, 1, 255, 0xabcd, 0xffff))}
		} else {
			task.Retry = r.Intn(6) * r.Intn(2)
		}
		p.Tasks = append(p.Tasks, task)
	}
	return p
}

// anyChange changes one thing of a pipeline, mostly so that it may not be.
func anyChange(r *rand.Rand, p *api.Pipeline) {
	number := pick(r, -1<<63, -1<<32, -256, -1, 0, 1, 2, 3, 4, 5, 6, 7, 8, 99, 100, 101, 256, 1<<32, 1<<32+1, 1<<63-1)
	name := pick(r, "", "a", "b", "abcdefghi", "A", "a b", "a,b", "a\n", " a", "é", "a\x00", "aftertim", "a1")
	if len(p.Tasks) == 0 {
		p.Tasks = append(p.Tasks, api.Task{Name: name, Time: 5})
		return
	}
	task := &p.Tasks[r.Intn(len(p.Tasks))]
	switch r.Intn(11) {
	case 0:
		p.Name = name
	case 1:
		task.Name = name
	case 2:
		task.After = append(task.After, number)
	case 3:
		task.After = append(task.After, r.Intn(9))
	case 4:
		task.Retry = number
	case 5:
		task.Time = number
	case 6:
		task.Need = number
	case 7:
		task.To.Level = number
	case 8:
		task.To.Set ^= 1 << r.Intn(16)
	case 9:
		p.Tasks = append(p.Tasks, *task)
		p.Tasks[len(p.Tasks)-1].Name = pick(r, "new", "newer", task.Name)
	case 10:
		p.Tasks = p.Tasks[:r.Intn(len(p.Tasks))]
	}
}

// anyText is the text of a pipeline in which some words are changed, or any bytes.
func anyText(r *rand.Rand) string {
	var lines [][]string
	for _, l := range strings.Split(strings.TrimSpace(plainText(anyRight(r))), "\n") {
		lines = append(lines, strings.Split(l, " "))
	}
	for range r.Intn(10) / 8 * 8 {
		lines = append(lines, []string{"task", anyName(r) + letter(r.Intn(26))})
	}
	for range r.Intn(5) {
		changeWords(r, &lines)
	}
	s := ""
	for _, words := range lines {
		s += pick(r, "", "", " ", "\n", " \n ") + strings.Join(words, pick(r, " ", " ", "  ")) + pick(r, "\n", "\n", " \n", "\n\n")
	}
	if r.Intn(40) == 0 {
		at := r.Intn(len(s) + 1)
		s = s[:at] + pick(r, "\t", "\x00", "é", "\r", "\x7f") + s[at:]
	}
	if r.Intn(40) == 0 {
		s += strings.Repeat(pick(r, " ", "\n", "a"), r.Intn(600))
	}
	return s[:len(s)-r.Intn(2)*r.Intn(len(s)+1)*r.Intn(2)]
}

func changeWords(r *rand.Rand, lines *[][]string) {
	word := pick(r, "pipe", "task", "gate", "after", "retry", "time", "to", "need", "a", "b", "c", "a,b", "b,a,b", "a,,b", "a,x", "A", "0", "1", "4", "5", "6", "07", "100", "101", "1:0000", "8:0000", "x")
	if len(*lines) == 0 {
		*lines = [][]string{{word}}
	}
	n := r.Intn(len(*lines))
	words := slices.Clone((*lines)[n])
	i := r.Intn(len(words))
	switch r.Intn(9) {
	case 0, 1:
		words[i] = word
	case 8:
		if after := slices.Index(words, "after"); 0 <= after && after < len(words)-1 {
			words[after+1] += pick(r, ",a", ",b", ","+words[1], ","+words[after+1])
		}
	case 2:
		words = slices.Insert(words, i, word)
	case 3:
		words = append(words, word, pick(r, "1", "4", "a", "1:0000"))
	case 4:
		words = words[:max(i, 1)]
	case 5:
		words = append(words[:i:i], words[i+1:]...)
	case 6:
		*lines = slices.Insert(*lines, n, words)
	case 7:
		*lines = slices.Delete(*lines, n, n+1)
		return
	}
	(*lines)[n] = words
	if len(words) == 0 {
		*lines = slices.Delete(*lines, n, n+1)
	}
}

// What is told of many texts, and of each kind of fault, is told often; and so is one where another one is too.
func TestAnyTexts(t *testing.T) {
	random := rand.New(rand.NewSource(8))
	right := 0
	told, beside := map[string]int{}, map[string]int{}
	for range 25000 {
		s := anyText(random)
		asksPlainly(t, s)
		if t.Failed() {
			t.Fatalf("%q", s)
		}
		_, wrongs := plainWrongs(s, 600)
		if len(wrongs) == 0 {
			right++
			continue
		}
		told[wrongs[0].kind]++
		for _, w := range wrongs[1:] {
			beside[w.kind]++
		}
	}
	kinds := []string{
		"too long", "byte", "no lines", "no tasks", "no pipe", "not two words", "pipe's name", "too many", "line's word", "one word", "task's name", "name twice", "pair's word", "word twice", "no value",
		"retry's value", "time's value", "need's value", "to's value", "after's name", "after's name twice", "after's name is none's", "no to or need",
	}
	if right < 2000 || len(told) != len(kinds) {
		t.Error("hardly held against each other:", right, len(told))
	}
	for _, kind := range kinds {
		first := slices.Contains([]string{"too long", "byte", "no lines", "no pipe"}, kind)
		if told[kind] < 20 || beside[kind] < 20 && !first {
			t.Error("hardly held against each other:", kind, told[kind], beside[kind])
		}
	}
}

func TestAnyBytes(t *testing.T) {
	random := rand.New(rand.NewSource(9))
	for range 10000 {
		usual := pick(random, "pipetaskgate \n", " \na,05:", "\x00\xff\n a~")
		b := make([]byte, random.Intn(pick(random, 3, 12, 80, 650)))
		for i := range b {
			b[i] = usual[random.Intn(len(usual))]
			if random.Intn(30) == 0 {
				b[i] = byte(random.Intn(256))
			}
		}
		asksPlainly(t, string(b))
		asksPlainly(t, "pipe p\n"+string(b))
		asksPlainly(t, "pipe p\ntask a "+string(b))
		asksPlainly(t, "pipe p\ngate a to 1:0000 "+string(b))
	}
}

func TestAnyPipelines(t *testing.T) {
	random := rand.New(rand.NewSource(10))
	var counts [3]int
	for range 8000 {
		p := anyRight(random)
		asksOf(t, p)
		other := plainCopy(p)
		for range random.Intn(3) {
			anyChange(random, &other)
		}
		asksOf(t, other)
		if Same(p, other) != plainSame(p, other) || Same(other, p) != plainSame(p, other) {
			t.Errorf("%+v, %+v: %v", p, other, Same(p, other))
		}
		if t.Failed() {
			t.Fatalf("%+v, %+v", p, other)
		}
		switch _, e := Print(other); e {
		case api.OK:
			counts[0]++
		case api.ErrArg:
			counts[1]++
		case api.ErrFull:
			counts[2]++
		}
	}
	if counts[0] < 1000 || counts[1] < 1000 || counts[2] < 100 {
		t.Error("hardly held against each other:", counts)
	}
}

// What was asked ahead of it is in no answer.
func TestAnswersHangOnArgumentsAlone(t *testing.T) {
	random := rand.New(rand.NewSource(11))
	var list []string
	for range 1000 {
		list = append(list, anyText(random))
	}
	for range 3 {
		random.Shuffle(len(list), func(i, j int) { list[i], list[j] = list[j], list[i] })
		for _, s := range list {
			asksPlainly(t, s)
		}
	}
}
