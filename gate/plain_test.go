package gate

import (
	"fmt"
	"math"
	"math/big"
	"math/rand"
	"regexp"
	"slices"
	"testing"

	"lockage/codec"
)

// The plain ways: votes are a set of numbers and a No, and numbers in a text are of any size.

// set has of each number how often it is there.
type set map[int]int

func setOf(list []int) set {
	s := set{}
	for _, n := range list {
		s[n]++
	}
	return s
}

// list are its numbers that may vote, rising, found by their bits.
func (s set) list() []int {
	bits := 0
	for n := range s {
		if n == min(max(n, 0), 11) {
			bits |= 1 << n
		}
	}
	var list []int
	for ; bits > 0; bits &= bits - 1 {
		low := 0
		for bits>>low%2 == 0 {
			low++
		}
		list = append(list, low)
	}
	return list
}

func plainVote(v Votes, who int, yes bool, need int) (Votes, bool) {
	if yes {
		s := setOf(v.Yes)
		s[who] = 1
		next := Votes{Yes: s.list(), No: v.No}
		for range next.Yes {
			need--
		}
		return next, need <= 0 && !v.No
	}
	return Votes{Yes: v.Yes, No: true}, false
}

// plainWrongs is how many things speak against votes.
func plainWrongs(v Votes) int {
	wrongs := 0
	if len(v.Yes) > 12 {
		wrongs++
	}
	for n, times := range setOf(v.Yes) {
		if n < 0 || n > 11 {
			wrongs++
		}
		wrongs += times - 1
	}
	for i := 1; i < len(v.Yes); i++ {
		if v.Yes[i-1] > v.Yes[i] {
			wrongs++
		}
	}
	return wrongs
}

func plainText(v Votes) string {
	s := fmt.Sprintf("%d,", len(v.Yes))
	for _, n := range v.Yes {
		s += fmt.Sprintf("%d,", n)
	}
	return s + map[bool]string{true: "1,", false: "0,"}[v.No]
}

var oneNumber = regexp.MustCompile(`^(0|-?[1-9][0-9]*),`)

// plainNumbers takes so many numbers from the front of a text: these, and what stands behind them.
func plainNumbers(s string, count int) ([]int, string, bool) {
	var list []int
	for range count {
		found := oneNumber.FindStringSubmatch(s)
		if found == nil {
			return nil, "", false
		}
		n, _ := new(big.Int).SetString(found[1], 10)
		if !n.IsInt64() {
			return nil, "", false
		}
		list = append(list, int(n.Int64()))
		s = s[len(found[0]):]
	}
	return list, s, true
}

// plainRead is the votes in front of a text, and what stands behind them.
func plainRead(s string) (Votes, string, bool) {
	count, s, is := plainNumbers(s, 1)
	if !is || count[0] < 0 || count[0] > 12 {
		return Votes{}, "", false
	}
	list, s, is := plainNumbers(s, count[0]+1)
	if !is {
		return Votes{}, "", false
	}
	no := list[count[0]]
	v := Votes{Yes: list[:count[0]], No: no == 1}
	if no*no != no || plainWrongs(v) > 0 {
		return Votes{}, "", false
	}
	return v, s, true
}

// counts tells how often each kind was met.
type counts map[string]int

func (c counts) enough(t *testing.T, least int, kinds ...string) {
	t.Helper()
	for _, kind := range kinds {
		if c[kind] < least {
			t.Errorf("%s: hardly held against each other: %d", kind, c[kind])
		}
	}
}

// either counts the one kind or the other one.
func (c counts) either(is bool, kind, other string) {
	if is {
		c[kind]++
	} else {
		c[other]++
	}
}

// voteAgainst holds a vote against the plain one.
func voteAgainst(t *testing.T, met counts, v Votes, who int, yes bool, need int) {
	t.Helper()
	got, may := Vote(v, who, yes, need)
	want, wantMay := plainVote(v, who, yes, need)
	if !same(got, want) || may != wantMay {
		t.Fatalf("Vote of %v, %d %v %d: %v %v, not %v %v", v, who, yes, need, got, may, want, wantMay)
	}
	met.either(may, "may go", "may not go")
	met.either(len(got.Yes) > len(v.Yes), "noted", "not noted")
}

// against holds Has and Right, what is written, and what is read of that, against the plain ways.
func against(t *testing.T, met counts, v Votes) {
	t.Helper()
	s := setOf(v.Yes)
	for who := -2; who <= 13; who++ {
		if Has(v, who) != (s[who] > 0) {
			t.Fatal("Has", v, who)
		}
		met.either(Has(v, who), "has", "has not")
	}
	if Right(v) != (plainWrongs(v) == 0) {
		t.Fatal("Right", v)
	}
	met.either(Right(v), "right", "not right")
	var w codec.Writer
	Write(&w, v)
	if w.String() != plainText(v) {
		t.Fatalf("Write of %v: %q", v, w.String())
	}
	readAgainst(t, met, w.String())
}

// readAgainst holds what is read of a text against the plain way.
func readAgainst(t *testing.T, met counts, s string) {
	t.Helper()
	want, behind, is := plainRead(s)
	r := codec.NewReader(s)
	if got := Read(r); !same(got, want) || r.Ok() != is || r.Done() != (is && behind == "") {
		t.Fatalf("Read of %q: %v, not %v; %v %v", s, got, want, r.Ok(), r.Done())
	}
	met.either(is, "read", "not read")
	if !is {
		return
	}
	// It goes on with what is behind them.
	left := codec.NewReader(behind)
	if r.Int(math.MinInt, math.MaxInt) != left.Int(math.MinInt, math.MaxInt) || r.Ok() != left.Ok() || r.Done() != left.Done() {
		t.Fatalf("Read of %q: behind it", s)
	}
}

// All votes that may be, and each vote that may be cast behind them.
func TestAllVotes(t *testing.T) {
	met := counts{}
	for bits := range 1 << 12 {
		s := set{}
		for n := range 12 {
			if bits>>n&1 == 1 {
				s[n]++
			}
		}
		for _, no := range []bool{false, true} {
			v := Votes{Yes: s.list(), No: no}
			against(t, met, v)
			for who := -1; who <= 12; who++ {
				for _, yes := range []bool{false, true} {
					for need := len(v.Yes) - 1; need <= len(v.Yes)+2; need++ {
						voteAgainst(t, met, v, who, yes, need)
					}
				}
			}
		}
	}
	met.enough(t, 8000, "may go", "may not go", "noted", "not noted", "has", "has not", "right", "read")
}

// All lists of up to four numbers about the edges, whether votes may be so or not.
func TestShortLists(t *testing.T) {
	met := counts{}
	numbers := []int{-1, 0, 1, 10, 11, 12}
	lists := [][]int{nil}
	for i := 0; i < len(lists); i++ {
		list := lists[i]
		for _, no := range []bool{false, true} {
			v := Votes{Yes: list, No: no}
			against(t, met, v)
			for _, who := range numbers {
				for need := -1; need <= 5; need++ {
					voteAgainst(t, met, v, who, need&1 == 1, need)
					voteAgainst(t, met, v, who, true, need)
				}
			}
		}
		if len(list) < 4 {
			for _, n := range numbers {
				lists = append(lists, append(slices.Clone(list), n))
			}
		}
	}
	if len(lists) != 1+6+36+216+1296 {
		t.Error(len(lists))
	}
	met.enough(t, 20, "may go", "may not go", "noted", "not noted", "has", "has not", "right", "not right", "read", "not read")
}

// someList may be one of votes, or one some of whose numbers were changed.
func someList(dice *rand.Rand) []int {
	var list []int
	for n := range 12 {
		if dice.Intn(2) == 0 {
			list = append(list, n)
		}
	}
	if dice.Intn(2) == 0 {
		return list
	}
	for range 1 + dice.Intn(3) {
		at := dice.Intn(len(list) + 1)
		switch {
		case dice.Intn(4) == 0:
			list = slices.Insert(list, at, dice.Intn(14)-1)
		case at == len(list):
			list = append(list, dice.Intn(30)-9)
		case dice.Intn(2) == 0:
			list[at] = dice.Intn(14) - 1
		default:
			other := dice.Intn(len(list))
			list[at], list[other] = list[other], list[at]
		}
	}
	return list
}

func TestRandomVotes(t *testing.T) {
	dice := rand.New(rand.NewSource(21))
	met := counts{}
	for range 30000 {
		v := Votes{Yes: someList(dice), No: dice.Intn(3) == 0}
		was := slices.Clone(v.Yes[:cap(v.Yes)])
		against(t, met, v)
		for range 6 {
			voteAgainst(t, met, v, dice.Intn(16)-2, dice.Intn(4) > 0, dice.Intn(16)-1)
		}
		if !slices.Equal(v.Yes[:cap(v.Yes)], was) {
			t.Fatal(v, was)
		}
	}
	met.enough(t, 5000, "may go", "may not go", "noted", "not noted", "has", "has not", "right", "not right", "read", "not read")
}

// Votes are cast one behind the other: what there is then hangs on who was for it and whether anybody was against it, not on their order.
func TestRandomWalks(t *testing.T) {
	dice := rand.New(rand.NewSource(22))
	met := counts{}
	for range 20000 {
		var v Votes
		may := false
		voters, against, need := set{}, 0, dice.Intn(7)
		for range 1 + dice.Intn(16) {
			who := dice.Intn(15) - 1
			if dice.Intn(12) == 0 {
				against++
				v, may = Vote(v, who, false, need)
			} else {
				voters[who]++
				v, may = Vote(v, who, true, need)
			}
			list := voters.list()
			if !same(v, Votes{Yes: list, No: against > 0}) || may != (against == 0 && len(list) >= need) || !Right(v) {
				t.Fatal(voters, against, need, v, may)
			}
			met.either(may, "may go", "may not go")
		}
		met.either(v.No, "against", "not against")
	}
	met.enough(t, 3000, "may go", "may not go", "against", "not against")
}

// Over, tick by tick about the time at which it is too late.
func TestOverTickByTick(t *testing.T) {
	for _, opened := range []int{-1 << 40, -1000, -1, 0, 1, 7, 1000, 1 << 39} {
		for _, time := range []int{-50, -1, 0, 1, 5, 100, 1 << 39} {
			ends := new(big.Int).Add(big.NewInt(int64(opened)), big.NewInt(int64(time)))
			for off := -60; off <= 60; off++ {
				now := opened + time + off
				if want := big.NewInt(int64(now)).Cmp(ends) >= 0; Over(opened, time, now) != want || want != (off >= 0) {
					t.Fatal(opened, time, now)
				}
			}
		}
	}
}

// Texts of votes, with a byte changed, left out, or put in, and others behind them.
func TestChangedTexts(t *testing.T) {
	dice := rand.New(rand.NewSource(23))
	met := counts{}
	bytes := "0123456789,,,-+ x"
	for range 60000 {
		s := []byte(plainText(Votes{Yes: someList(dice), No: dice.Intn(2) == 0}))
		at, b := dice.Intn(len(s)), bytes[dice.Intn(len(bytes))]
		switch dice.Intn(5) {
		case 0:
			s[at] = b
		case 1:
			s = append(s[:at], s[at+1:]...)
		case 2:
			s = append(s[:at+1], s[at:]...)
			s[at] = b
		case 3:
			s = append(s, b, ',')
		}
		readAgainst(t, met, string(s))
	}
	met.enough(t, 5000, "read", "not read")
}

// All texts of up to five short numbers.
func TestShortTexts(t *testing.T) {
	met := counts{}
	texts := []string{""}
	for i := 0; i < len(texts); i++ {
		readAgainst(t, met, texts[i])
		if i < 1+8+64+512+4096 {
			for _, n := range []string{"0,", "1,", "2,", "3,", "11,", "12,", "-1,", "01,"} {
				texts = append(texts, texts[i]+n)
			}
		}
	}
	met.enough(t, 1000, "read", "not read")
}

// Votes one behind the other, texts between them: the first that may not be stops the reader.
func TestListsOfVotes(t *testing.T) {
	dice := rand.New(rand.NewSource(24))
	met := counts{}
	for range 20000 {
		var w codec.Writer
		list := make([]Votes, 3)
		for i := range list {
			list[i] = Votes{Yes: someList(dice), No: dice.Intn(2) == 0}
			Write(&w, list[i])
			w.Text("behind"[:i])
		}
		r := codec.NewReader(w.String())
		right := true
		for i, want := range list {
			if right = right && Right(want); !right {
				want = Votes{}
			}
			got := Read(r)
			// Of lists that may not be, a Reader stops in them or ahead of what is behind them.
			if !same(got, want) || r.Ok() != right {
				t.Fatal(list, i, got)
			}
			r.Text(9)
		}
		if r.Done() != right {
			t.Fatal(list, right)
		}
		met.either(right, "all read", "stopped")
	}
	met.enough(t, 1000, "all read", "stopped")
}
