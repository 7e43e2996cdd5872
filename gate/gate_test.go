package gate

import (
	"math"
	"slices"
	"strings"
	"testing"

	"lockage/codec"
)

// of are the numbers of a list, in memory that has others behind them.
func of(list ...int) []int {
	room := append(slices.Clone(list), 77, 78, 79, 80)
	return room[:len(list)]
}

// twelve are all who may vote.
func twelve() []int { return of(0, 1, 2, 3, 4, 5, 6, 7, 8, 9, 10, 11) }

func same(a, b Votes) bool { return slices.Equal(a.Yes, b.Yes) && a.No == b.No }

func isZero(v Votes) bool { return len(v.Yes) == 0 && !v.No }

// wrongs are lists of no votes that may be.
func wrongs() [][]int {
	return [][]int{
		of(5, 3), of(1, 0), of(11, 0), of(0, 2, 1), of(2, 0, 1), of(0, 5, 4, 11), of(11, 10, 9), // not rising
		of(0, 0), of(3, 3), of(11, 11), of(0, 3, 3), of(3, 3, 7), of(3, 7, 3), of(5, 5, 5, 5), // one twice
		of(-1), of(12), of(13), of(-1, 0), of(-2, -1), of(11, 12), of(12, 13), of(-1, 12), of(0, 12), of(3, -1), of(math.MinInt), of(math.MaxInt), of(math.MinInt, 4, math.MaxInt), // beyond 0 to 11
		of(0, 1, 2, 3, 4, 5, 6, 7, 8, 9, 10, 11, 12), of(-1, 0, 1, 2, 3, 4, 5, 6, 7, 8, 9, 10, 11), of(0, 1, 2, 3, 4, 5, 6, 7, 8, 9, 10, 11, 11), of(0, 0, 1, 2, 3, 4, 5, 6, 7, 8, 9, 10, 11),
		of(12, 13, 14, 15, 16, 17, 18, 19, 20, 21, 22, 23, 24), of(make([]int, 13)...), of(make([]int, 500)...), // more than 12
	}
}

// rights are lists of votes that may be.
func rights() [][]int {
	return [][]int{nil, {}, of(), of(0), of(1), of(10), of(11), of(0, 1), of(0, 11), of(10, 11), of(3, 5, 7), of(0, 2, 4, 6, 8, 10), of(1, 3, 5, 7, 9, 11), of(0, 1, 2, 3, 4, 5, 6, 7, 8, 9, 10), of(1, 2, 3, 4, 5, 6, 7, 8, 9, 10, 11), twelve()}
}

// lists are all of them.
func lists() [][]int { return append(rights(), wrongs()...) }

// nobody has one of these numbers.
var nobody = []int{-1, 12, 13, -2, -12, 77, 78, 1 << 32, 1<<32 + 5, -1 << 32, math.MinInt, math.MaxInt}

// P12.1

func TestVoteYes(t *testing.T) {
	for i, c := range []struct {
		yes  []int
		who  int
		want []int
	}{
		{nil, 0, of(0)}, {nil, 1, of(1)}, {nil, 6, of(6)}, {nil, 10, of(10)}, {nil, 11, of(11)},
		{[]int{}, 0, of(0)}, {of(), 0, of(0)}, {of(), 11, of(11)},
		{of(5), 4, of(4, 5)}, {of(5), 0, of(0, 5)}, {of(3, 5, 7), 2, of(2, 3, 5, 7)}, {of(3, 5, 7), 0, of(0, 3, 5, 7)}, // below all
		{of(5), 6, of(5, 6)}, {of(5), 11, of(5, 11)}, {of(3, 5, 7), 8, of(3, 5, 7, 8)}, {of(3, 5, 7), 11, of(3, 5, 7, 11)}, // above all
		{of(3, 5, 7), 4, of(3, 4, 5, 7)}, {of(3, 5, 7), 6, of(3, 5, 6, 7)}, {of(0, 11), 5, of(0, 5, 11)}, {of(0, 11), 1, of(0, 1, 11)}, {of(0, 11), 10, of(0, 10, 11)}, // between two
		{of(5), 5, of(5)}, {of(0), 0, of(0)}, {of(11), 11, of(11)}, {of(3, 5, 7), 3, of(3, 5, 7)}, {of(3, 5, 7), 5, of(3, 5, 7)}, {of(3, 5, 7), 7, of(3, 5, 7)}, // in it already
		{of(1, 2, 3, 4, 5, 6, 7, 8, 9, 10, 11), 0, twelve()}, {of(0, 1, 2, 3, 4, 5, 6, 7, 8, 9, 10), 11, twelve()}, {of(0, 1, 2, 3, 4, 6, 7, 8, 9, 10, 11), 5, twelve()},
		{twelve(), 0, twelve()}, {twelve(), 5, twelve()}, {twelve(), 11, twelve()},
	} {
		for _, no := range []bool{false, true} {
			got, _ := Vote(Votes{Yes: c.yes, No: no}, c.who, true, 1)
			if !same(got, Votes{Yes: c.want, No: no}) {
				t.Errorf("%d: %v, not %v", i, got, c.want)
			}
		}
	}
}

func TestVoteOfNobody(t *testing.T) {
	for _, yes := range rights() {
		for _, no := range []bool{false, true} {
			for _, who := range nobody {
				v := Votes{Yes: yes, No: no}
				if got, may := Vote(v, who, true, 1); !same(got, v) || may != (!no && len(yes) > 0) {
					t.Error(v, who, got, may)
				}
			}
		}
	}
}

// Into votes that may not be: what is answered may be, it has who, and of the others all who may vote.
func TestVoteYesOfWrongs(t *testing.T) {
	for i, c := range []struct {
		yes  []int
		who  int
		want []int
	}{
		{of(5, 3), 4, of(3, 4, 5)}, {of(5, 3), 5, of(3, 5)}, {of(5, 3), 0, of(0, 3, 5)}, {of(5, 3), 11, of(3, 5, 11)}, {of(5, 3), 12, of(3, 5)},
		{of(11, 10, 9), 8, of(8, 9, 10, 11)}, {of(2, 0, 1), 1, of(0, 1, 2)},
		{of(3, 3), 5, of(3, 5)}, {of(3, 3), 3, of(3)}, {of(3, 3), 0, of(0, 3)}, {of(3, 7, 3), -1, of(3, 7)}, {of(5, 5, 5, 5), 6, of(5, 6)},
		{of(-1), 3, of(3)}, {of(12), 3, of(3)}, {of(-1, 12), 0, of(0)}, {of(-1, 0), -1, of(0)}, {of(11, 12), 12, of(11)}, {of(12), 12, nil}, {of(-1), -1, nil}, {of(math.MinInt, 4, math.MaxInt), 5, of(4, 5)},
		{of(0, 1, 2, 3, 4, 5, 6, 7, 8, 9, 10, 11, 12), 3, twelve()}, {of(-1, 0, 1, 2, 3, 4, 5, 6, 7, 8, 9, 10, 11), -1, twelve()}, {of(0, 0, 1, 2, 3, 4, 5, 6, 7, 8, 9, 10, 11), 0, twelve()},
		{of(12, 13, 14, 15, 16, 17, 18, 19, 20, 21, 22, 23, 24), 1, of(1)}, {of(make([]int, 13)...), 1, of(0, 1)}, {of(make([]int, 500)...), 500, of(0)},
	} {
		for _, no := range []bool{false, true} {
			got, _ := Vote(Votes{Yes: c.yes, No: no}, c.who, true, 1)
			if !same(got, Votes{Yes: c.want, No: no}) {
				t.Errorf("%d: %v, not %v", i, got, c.want)
			}
		}
	}
	for _, yes := range wrongs() {
		for who := -2; who < 14; who++ {
			got, _ := Vote(Votes{Yes: yes}, who, true, 1)
			if !slices.IsSorted(got.Yes) || !Right(got) || Has(got, who) != (who >= 0 && who < 12) {
				t.Error(yes, who, got)
			}
		}
	}
}

func TestVoteNo(t *testing.T) {
	for _, yes := range lists() {
		for _, no := range []bool{false, true} {
			for _, who := range append([]int{0, 1, 3, 5, 6, 10, 11}, nobody...) {
				for _, need := range []int{math.MinInt, -1, 0, 1, 2, 12, 13} {
					if got, may := Vote(Votes{Yes: yes, No: no}, who, false, need); !same(got, Votes{Yes: yes, No: true}) || may {
						t.Error(yes, no, who, need, got, may)
					}
				}
			}
		}
	}
}

func TestMayItGo(t *testing.T) {
	for i, c := range []struct {
		yes       []int
		who, need int
		may       bool
	}{
		{nil, 3, 1, true}, {nil, 3, 2, false}, {nil, 3, 3, false}, {nil, 3, 4, false}, {nil, 3, 0, true}, {nil, 3, -1, true},
		{of(), 3, 1, true}, {of(), 3, 2, false},
		{of(5), 3, 1, true}, {of(5), 3, 2, true}, {of(5), 3, 3, false}, {of(5), 3, 4, false}, {of(5), 3, 0, true},
		{of(5), 5, 1, true}, {of(5), 5, 2, false}, {of(5), 5, 0, true}, // once is once
		{of(0, 5), 11, 2, true}, {of(0, 5), 11, 3, true}, {of(0, 5), 11, 4, false},
		{of(0, 5, 7), 11, 3, true}, {of(0, 5, 7), 11, 4, true}, {of(0, 5, 7), 11, 5, false},
		{of(0, 5, 7), 7, 3, true}, {of(0, 5, 7), 7, 4, false},
		{twelve(), 4, 11, true}, {twelve(), 4, 12, true}, {twelve(), 4, 13, false}, {twelve(), 4, math.MaxInt, false}, {twelve(), 4, math.MinInt, true},
		{of(1, 2, 3, 4, 5, 6, 7, 8, 9, 10, 11), 0, 12, true}, {of(1, 2, 3, 4, 5, 6, 7, 8, 9, 10, 11), 0, 13, false},
		// Who isn't noted.
		{nil, -1, 1, false}, {nil, 12, 1, false}, {nil, 12, 0, true}, {nil, -1, 0, true}, {nil, 12, -1, true}, {nil, -1, math.MinInt, true},
		{of(5), 12, 2, false}, {of(5), -1, 2, false}, {of(5), 12, 1, true}, {of(5), -1, 1, true}, {of(5), 12, 0, true},
		{of(0, 5), -1, 3, false}, {of(0, 5), 12, 2, true}, {twelve(), 12, 13, false}, {twelve(), 12, 12, true}, {twelve(), -1, 13, false},
		// A number that is there twice is one, and one that nobody has is none.
		{of(3, 3), 3, 1, true}, {of(3, 3), 3, 2, false}, {of(3, 3), 5, 2, true}, {of(3, 3), 5, 3, false}, {of(3, 3), 12, 2, false},
		{of(12), 3, 2, false}, {of(12), 3, 1, true}, {of(-1), 3, 2, false}, {of(-1), 3, 1, true}, {of(-1, 12), 12, 1, false}, {of(-1, 12), -1, 0, true},
		{of(0, 1, 2, 3, 4, 5, 6, 7, 8, 9, 10, 11, 12), 3, 13, false}, {of(0, 1, 2, 3, 4, 5, 6, 7, 8, 9, 10, 11, 12), 3, 12, true},
	} {
		if _, may := Vote(Votes{Yes: c.yes}, c.who, true, c.need); may != c.may {
			t.Error(i, may)
		}
		if _, may := Vote(Votes{Yes: c.yes, No: true}, c.who, true, c.need); may {
			t.Error(i, "with a no")
		}
		if _, may := Vote(Votes{Yes: c.yes}, c.who, false, c.need); may {
			t.Error(i, "no")
		}
	}
}

func TestNoStays(t *testing.T) {
	v, may := Votes{}, false
	for i, c := range []struct {
		who  int
		yes  bool
		want Votes
		may  bool
	}{
		{4, true, Votes{Yes: of(4)}, false}, {9, true, Votes{Yes: of(4, 9)}, true}, {9, true, Votes{Yes: of(4, 9)}, true},
		{4, false, Votes{Yes: of(4, 9), No: true}, false}, // he was for it
		{4, true, Votes{Yes: of(4, 9), No: true}, false}, {0, true, Votes{Yes: of(0, 4, 9), No: true}, false}, {11, false, Votes{Yes: of(0, 4, 9), No: true}, false},
		{12, true, Votes{Yes: of(0, 4, 9), No: true}, false}, {-1, false, Votes{Yes: of(0, 4, 9), No: true}, false}, {11, true, Votes{Yes: of(0, 4, 9, 11), No: true}, false},
	} {
		if v, may = Vote(v, c.who, c.yes, 2); !same(v, c.want) || may != c.may {
			t.Errorf("%d: %v %v, not %v %v", i, v, may, c.want, c.may)
		}
	}
}

// The example of the chapter: two of need 2, and behind a No.
func TestTwoOfTwo(t *testing.T) {
	one, may := Vote(Votes{}, 3, true, 2)
	if may {
		t.Error("one")
	}
	two, may := Vote(one, 1, true, 2)
	if !may || !same(two, Votes{Yes: of(1, 3)}) {
		t.Error("two", two)
	}
	no, _ := Vote(one, 2, false, 2)
	if no, may = Vote(no, 1, true, 2); may || !same(no, Votes{Yes: of(1, 3), No: true}) {
		t.Error("behind a no", no)
	}
}

// orders are all orders of a list.
func orders(list []int) [][]int {
	if len(list) == 0 {
		return [][]int{nil}
	}
	var all [][]int
	for i, n := range list {
		for _, left := range orders(slices.Concat(list[:i], list[i+1:])) {
			all = append(all, append([]int{n}, left...))
		}
	}
	return all
}

func TestAllOrders(t *testing.T) {
	all := orders([]int{0, 3, 4, 10, 11, 12})
	if len(all) != 720 {
		t.Fatal(len(all))
	}
	for _, list := range all {
		var v Votes
		may := false
		for i, who := range list {
			v, may = Vote(v, who, true, 3)
			want := slices.Clone(list[:i+1])
			slices.Sort(want)
			if at := slices.Index(want, 12); at >= 0 {
				want = slices.Delete(want, at, at+1)
			}
			if !same(v, Votes{Yes: want}) || may != (len(want) >= 3) {
				t.Fatal(list, i, v, may)
			}
		}
		// One of them is against it, at each place.
		for against := range list {
			v := Votes{}
			for i, who := range list {
				if v, may = Vote(v, who, i != against, 2); may && i >= against || v.No != (i >= against) {
					t.Fatal(list, against, i, v, may)
				}
			}
			if Has(v, list[against]) || len(v.Yes) != 4 && list[against] != 12 {
				t.Fatal(list, against, v)
			}
		}
	}
}

func TestVoteLeavesWhatItWasGiven(t *testing.T) {
	for _, yes := range lists() {
		for who := -1; who <= 12; who++ {
			for _, cast := range []bool{true, false} {
				room := append([]int{-77}, slices.Concat(yes, []int{101, 102, 103, 104})...)
				was := slices.Clone(room)
				v := Votes{Yes: room[1 : 1+len(yes)]}
				got, _ := Vote(v, who, cast, 2)
				// What is answered is new memory, up to the end of its room.
				all := got.Yes[:cap(got.Yes)]
				for i := range all {
					all[i] = -500
				}
				if !slices.Equal(room, was) || len(v.Yes) != len(yes) || v.No {
					t.Fatal(yes, who, cast, room)
				}
			}
		}
	}
}

func TestVotesApart(t *testing.T) {
	one, _ := Vote(Votes{}, 3, true, 2)
	low, _ := Vote(one, 1, true, 2)
	high, _ := Vote(one, 9, true, 2)
	more, _ := Vote(high, 10, true, 2)
	other, _ := Vote(high, 11, true, 2)
	no, _ := Vote(high, 0, false, 2)
	high.Yes[0] = 5
	if !same(one, Votes{Yes: of(3)}) || !same(low, Votes{Yes: of(1, 3)}) || !same(more, Votes{Yes: of(3, 9, 10)}) || !same(other, Votes{Yes: of(3, 9, 11)}) || !same(no, Votes{Yes: of(3, 9), No: true}) {
		t.Error(one, low, high, more, other, no)
	}
}

func TestHas(t *testing.T) {
	for _, yes := range rights() {
		for _, no := range []bool{false, true} {
			v := Votes{Yes: yes, No: no}
			for _, n := range yes {
				if !Has(v, n) {
					t.Error(v, n)
				}
			}
			for _, n := range nobody {
				if Has(v, n) {
					t.Error(v, n)
				}
			}
		}
	}
	v := Votes{Yes: of(0, 3, 4, 11)}
	for who := -3; who <= 14; who++ {
		if want := who == 0 || who == 3 || who == 4 || who == 11; Has(v, who) != want {
			t.Error(who)
		}
	}
	if Has(Votes{}, 0) || Has(Votes{No: true}, 0) || Has(Votes{Yes: of()}, 77) {
		t.Error("none")
	}
}

func TestHasOfWrongs(t *testing.T) {
	for _, yes := range wrongs() {
		for _, n := range yes {
			if !Has(Votes{Yes: yes}, n) {
				t.Error(yes, n)
			}
		}
	}
	for i, c := range []struct {
		yes  []int
		who  int
		want bool
	}{
		{of(5, 3), 3, true}, {of(5, 3), 5, true}, {of(5, 3), 4, false}, {of(11, 10, 9), 10, true}, {of(2, 0, 1), 2, true},
		{of(3, 3), 3, true}, {of(3, 3), 4, false}, {of(-1), -1, true}, {of(-1), 0, false}, {of(12), 12, true}, {of(12), 11, false}, {of(-1, 12), 0, false},
		{of(make([]int, 13)...), 0, true}, {of(make([]int, 13)...), 1, false}, {of(0, 1, 2, 3, 4, 5, 6, 7, 8, 9, 10, 11, 12), 12, true}, {of(0, 1, 2, 3, 4, 5, 6, 7, 8, 9, 10, 11, 12), 13, false},
	} {
		if Has(Votes{Yes: c.yes}, c.who) != c.want {
			t.Error(i)
		}
	}
}

func TestOver(t *testing.T) {
	for i, c := range []struct {
		opened, time, now int
		want              bool
	}{
		{5, 3, 7, false}, {5, 3, 8, true}, {5, 3, 9, true}, {5, 3, 5, false}, {5, 3, 0, false}, {5, 3, 1000, true},
		{0, 0, -1, false}, {0, 0, 0, true}, {0, 0, 1, true},
		{0, 100, 99, false}, {0, 100, 100, true}, {0, 100, 101, true}, {900, 100, 999, false}, {900, 100, 1000, true},
		{7, 0, 6, false}, {7, 0, 7, true}, {7, 0, 8, true}, {0, 7, 6, false}, {0, 7, 7, true},
		{7, -2, 4, false}, {7, -2, 5, true}, {7, -2, 6, true}, {2, -7, -6, false}, {2, -7, -5, true}, {2, -7, -4, true},
		{-7, 2, -6, false}, {-7, 2, -5, true}, {-7, 2, -4, true}, {-2, 7, 4, false}, {-2, 7, 5, true}, {-7, 7, -1, false}, {-7, 7, 0, true},
		{-3, -4, -8, false}, {-3, -4, -7, true}, {-3, -4, -6, true}, {-7, 0, -8, false}, {-7, 0, -7, true},
		{1 << 40, 1, 1 << 40, false}, {1<<40 - 1, 1, 1 << 40, true}, {-1 << 40, 1, -1 << 40, false}, {-1 << 40, 0, -1 << 40, true},
		{1 << 40, -1 << 40, -1, false}, {1 << 40, -1 << 40, 0, true}, {-1 << 40, 1 << 40, -1, false}, {-1 << 40, 1 << 40, 0, true},
		{1 << 40, 1 << 40, 1 << 40, false}, {-1 << 40, -1 << 40, -1 << 40, true}, {1 << 40, 0, -1 << 40, false}, {0, -1 << 40, 1 << 40, true},
	} {
		if Over(c.opened, c.time, c.now) != c.want {
			t.Error(i, c)
		}
	}
}

func TestRight(t *testing.T) {
	for _, no := range []bool{false, true} {
		for n := range 12 {
			if !Right(Votes{Yes: of(n), No: no}) {
				t.Error(n)
			}
			for above := n + 1; above < 12; above++ {
				if !Right(Votes{Yes: of(n, above), No: no}) || Right(Votes{Yes: of(above, n), No: no}) {
					t.Error(n, above)
				}
			}
			if Right(Votes{Yes: of(n, n), No: no}) {
				t.Error(n, "twice")
			}
		}
		for _, n := range nobody {
			if Right(Votes{Yes: of(n), No: no}) {
				t.Error(n)
			}
		}
		for _, yes := range rights() {
			if !Right(Votes{Yes: yes, No: no}) {
				t.Error(yes)
			}
		}
		for _, yes := range wrongs() {
			if Right(Votes{Yes: yes, No: no}) {
				t.Error(yes)
			}
		}
	}
	if !Right(Votes{}) || !Right(Votes{No: true}) {
		t.Error("none")
	}
}

// One number of twelve is one above, or below, what it was.
func TestRightOfOneMoved(t *testing.T) {
	for at := range 12 {
		for _, by := range []int{-12, -2, -1, 1, 2, 12} {
			yes := twelve()
			yes[at] += by
			if Right(Votes{Yes: yes}) {
				t.Error(yes)
			}
			less := slices.Delete(twelve(), at, at+1)
			if !Right(Votes{Yes: less}) {
				t.Error(less)
			}
		}
	}
}

// P12.2

func TestWrite(t *testing.T) {
	for i, c := range []struct {
		v    Votes
		want string
	}{
		{Votes{}, "0,0,"}, {Votes{No: true}, "0,1,"}, {Votes{Yes: of()}, "0,0,"}, {Votes{Yes: of(), No: true}, "0,1,"},
		{Votes{Yes: of(0)}, "1,0,0,"}, {Votes{Yes: of(0), No: true}, "1,0,1,"}, {Votes{Yes: of(11)}, "1,11,0,"}, {Votes{Yes: of(11), No: true}, "1,11,1,"},
		{Votes{Yes: of(0, 5, 11)}, "3,0,5,11,0,"}, {Votes{Yes: of(0, 4, 5, 11), No: true}, "4,0,4,5,11,1,"},
		{Votes{Yes: twelve()}, "12,0,1,2,3,4,5,6,7,8,9,10,11,0,"}, {Votes{Yes: twelve(), No: true}, "12,0,1,2,3,4,5,6,7,8,9,10,11,1,"},
		// Votes that may not be.
		{Votes{Yes: of(5, 3)}, "2,5,3,0,"}, {Votes{Yes: of(3, 3), No: true}, "2,3,3,1,"}, {Votes{Yes: of(-1, 12)}, "2,-1,12,0,"},
		{Votes{Yes: of(math.MinInt, math.MaxInt)}, "2,-9223372036854775808,9223372036854775807,0,"},
		{Votes{Yes: of(make([]int, 13)...), No: true}, "13,0,0,0,0,0,0,0,0,0,0,0,0,0,1,"},
		{Votes{Yes: of(make([]int, 500)...)}, "500," + strings.Repeat("0,", 500) + "0,"},
	} {
		var w codec.Writer
		Write(&w, c.v)
		if w.String() != c.want {
			t.Errorf("%d: %q, not %q", i, w.String(), c.want)
		}
	}
}

func TestWriteBehindWhatThereIs(t *testing.T) {
	var w codec.Writer
	w.Text("ab")
	Write(&w, Votes{Yes: of(4)})
	w.Int(5)
	was := w
	Write(&w, Votes{No: true})
	if w.String() != "2,ab1,4,0,5,0,1," || was.String() != "2,ab1,4,0,5," {
		t.Errorf("%q %q", w.String(), was.String())
	}
}

func TestWriterThatIsNone(t *testing.T) {
	for _, yes := range lists() {
		Write(nil, Votes{Yes: yes, No: true}) // does nothing
	}
}

func TestRead(t *testing.T) {
	for i, c := range []struct {
		s    string
		want Votes
	}{
		{"0,0,", Votes{}}, {"0,1,", Votes{No: true}},
		{"1,0,0,", Votes{Yes: of(0)}}, {"1,0,1,", Votes{Yes: of(0), No: true}}, {"1,11,0,", Votes{Yes: of(11)}}, {"1,11,1,", Votes{Yes: of(11), No: true}},
		{"2,0,1,0,", Votes{Yes: of(0, 1)}}, {"2,0,11,1,", Votes{Yes: of(0, 11), No: true}}, {"2,10,11,0,", Votes{Yes: of(10, 11)}}, {"3,0,5,11,0,", Votes{Yes: of(0, 5, 11)}},
		{"11,1,2,3,4,5,6,7,8,9,10,11,0,", Votes{Yes: of(1, 2, 3, 4, 5, 6, 7, 8, 9, 10, 11)}},
		{"12,0,1,2,3,4,5,6,7,8,9,10,11,0,", Votes{Yes: twelve()}}, {"12,0,1,2,3,4,5,6,7,8,9,10,11,1,", Votes{Yes: twelve(), No: true}},
	} {
		r := codec.NewReader(c.s)
		if got := Read(r); !same(got, c.want) || !r.Ok() || !r.Done() {
			t.Errorf("%d: %v, not %v; %v %v", i, got, c.want, r.Ok(), r.Done())
		}
	}
}

func TestReadGoesOn(t *testing.T) {
	r := codec.NewReader("7,1,4,0,2,ab3,0,5,11,1,0,0,9,")
	if r.Int(0, 9) != 7 || !same(Read(r), Votes{Yes: of(4)}) || r.Text(2) != "ab" || !same(Read(r), Votes{Yes: of(0, 5, 11), No: true}) || !isZero(Read(r)) || !r.Ok() || r.Done() {
		t.Error("read on")
	}
	if r.Int(0, 9) != 9 || !r.Done() {
		t.Error("behind all")
	}
	// Nothing is left.
	if !isZero(Read(r)) || r.Ok() {
		t.Error("behind the end")
	}
	for _, behind := range []string{"x", ",", " ", "-", "00,", "13,", "\x00", "5,1,"} {
		r := codec.NewReader("2,4,7,1," + behind)
		if !same(Read(r), Votes{Yes: of(4, 7), No: true}) || !r.Ok() || r.Done() {
			t.Errorf("%q", behind)
		}
	}
}

// stopped asks that a text is of no votes that may be, and that its reader has stopped.
func stopped(t *testing.T, s string) {
	t.Helper()
	r := codec.NewReader(s)
	if got := Read(r); !isZero(got) || r.Ok() || r.Done() {
		t.Errorf("%q: %v %v %v", s, got, r.Ok(), r.Done())
	}
	for range 2 {
		if got := Read(r); !isZero(got) || r.Int(math.MinInt, math.MaxInt) != 0 || r.Text(9) != "" || r.Ok() {
			t.Errorf("%q: read on: %v", s, got)
		}
	}
}

// What layer 6 refuses, in the place of how many there are, of any number, and of a No.
func TestReadOfWhatIsNoNumber(t *testing.T) {
	for _, bad := range []string{
		"", ",", "x,", "-,", "+,", "00,", "01,", "05,", "011,", "000,", "-0,", "+0,", "+1,", "+5,", "-1,", " 0,", " 5,", "0 ,", "5 ,", " ,", "0x0,", "0.0,", "5.0,", "1_0,", "0;", "0", "1", "5", "٠,", "\x00,", "0\n,", "a",
		"9223372036854775808,", "18446744073709551616,", "18446744073709551617,", "18446744073709551621,", "-18446744073709551616,", "36893488147419103232,", strings.Repeat("9", 500) + ",", strings.Repeat("0", 500) + ",",
	} {
		for _, all := range [][]string{{"0,", "0,"}, {"1,", "5,", "1,"}, {"3,", "0,", "5,", "11,", "0,"}} {
			for at := range all {
				changed := slices.Clone(all)
				changed[at] = bad
				text := strings.Join(changed, "")
				// Where it is not there at all, the next one may do in its place.
				if bad != "" || at == len(all)-1 {
					stopped(t, text)
				}
				if strings.HasSuffix(bad, ",") {
					stopped(t, text+"0,1,2,3,4,5,6,")
				}
			}
		}
	}
}

func TestReadOfNoVotes(t *testing.T) {
	for _, s := range []string{
		"-1,0,", "-1,", "13,", "13,0,", "13,0,1,2,3,4,5,6,7,8,9,10,11,12,0,", "13,0,1,2,3,4,5,6,7,8,9,10,11,0,", "13,0,0,0,0,0,0,0,0,0,0,0,0,0,0,", "14,0,", "1000000,0,", "9223372036854775807,0,", "-9223372036854775808,0,", // how many
		"1,-1,0,", "1,12,0,", "1,13,0,", "2,-1,5,0,", "2,5,12,0,", "12,0,1,2,3,4,5,6,7,8,9,10,12,0,", "12,-1,0,1,2,3,4,5,6,7,8,9,10,0,", "3,0,-1,5,0,", // beyond 0 to 11
		"2,1,0,0,", "2,3,1,0,", "2,11,0,1,", "3,0,5,4,0,", "3,5,0,6,0,", "3,0,2,1,1,", // not rising
		"2,0,0,0,", "2,1,1,0,", "2,11,11,0,", "3,0,3,3,0,", "3,3,3,7,1,", "3,3,7,3,1,", "12,0,1,2,3,4,5,6,7,8,9,10,10,0,", // one twice
		"0,2,", "0,-1,", "0,11,", "1,5,2,", "1,5,-1,", "3,0,5,11,2,", "3,0,5,11,-1,", "12,0,1,2,3,4,5,6,7,8,9,10,11,2,", "1,5,9223372036854775807,", // no No
	} {
		for _, behind := range []string{"", "0,", "1,", "x", "0,0,", "1,5,0,"} {
			stopped(t, s+behind)
		}
	}
}

func TestReadOfFewer(t *testing.T) {
	for _, s := range []string{"0,0,", "1,5,1,", "3,0,5,11,0,", "12,0,1,2,3,4,5,6,7,8,9,10,11,1,"} {
		for size := range len(s) {
			stopped(t, s[:size])
		}
	}
	// One fewer than are told, and what is behind them is a No, or a number in its place.
	for _, s := range []string{"1,0,", "1,1,", "2,5,0,", "2,0,1,", "3,0,5,1,", "3,0,5,11,", "12,0,1,2,3,4,5,6,7,8,9,10,0,", "12,0,1,2,3,4,5,6,7,8,9,10,11,"} {
		stopped(t, s)
	}
	// One more: it is read as the No.
	stopped(t, "1,3,5,0,")
	r := codec.NewReader("1,0,1,0,")
	if got := Read(r); !same(got, Votes{Yes: of(0), No: true}) || !r.Ok() || r.Done() || r.Int(0, 0) != 0 || !r.Done() {
		t.Error("one more", got)
	}
}

func TestReadersThatHaveStopped(t *testing.T) {
	r := codec.NewReader("3,0,5,11,1,")
	r.Int(2, 1)
	for range 2 {
		if got := Read(r); !isZero(got) || r.Ok() || r.Done() {
			t.Error(got)
		}
	}
	for range 2 {
		if got := Read(nil); !isZero(got) {
			t.Error(got)
		}
	}
}

func TestWhatIsReadIsNewMemory(t *testing.T) {
	s := "3,0,5,11,1,"
	one, two := Read(codec.NewReader(s)), Read(codec.NewReader(s))
	for i := range one.Yes {
		one.Yes[i] = 9
	}
	if !same(two, Votes{Yes: of(0, 5, 11), No: true}) || !same(Read(codec.NewReader(s)), two) {
		t.Error(two)
	}
}

// What was handed in stays as it is, behind its end too.
func TestHandedIn(t *testing.T) {
	for _, yes := range lists() {
		for _, no := range []bool{false, true} {
			was := slices.Clone(yes[:cap(yes)])
			v := Votes{Yes: yes, No: no}
			var w codec.Writer
			Has(v, 5)
			Right(v)
			Write(&w, v)
			Write(nil, v)
			Vote(v, 5, true, 2)
			Vote(v, 5, false, 2)
			if !slices.Equal(yes[:cap(yes)], was) || len(v.Yes) != len(yes) || v.No != no {
				t.Error(yes, was)
			}
		}
	}
}

// P12.2 and P6.2: votes that may be are read as they were written; others are not.
func TestReadAsWritten(t *testing.T) {
	for _, yes := range lists() {
		for _, no := range []bool{false, true} {
			v := Votes{Yes: yes, No: no}
			var w codec.Writer
			Write(&w, v)
			w.Text("behind")
			r := codec.NewReader(w.String())
			if !Right(v) {
				stopped(t, w.String())
				continue
			}
			if got := Read(r); !same(got, v) || r.Text(6) != "behind" || !r.Done() {
				t.Error(v, got)
			}
		}
	}
}
