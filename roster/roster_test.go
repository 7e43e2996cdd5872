package roster

import (
	"math"
	"slices"
	"testing"

	"lockage/api"
)

func of(level int, set uint16) api.Label { return api.Label{Level: level, Set: set} }

func one(part int, auth api.Label) api.Person { return api.Person{Part: part, Auth: auth} }

// partitions is n labels, no two of them the same.
func partitions(n int) []api.Label {
	list := make([]api.Label, n)
	for i := range list {
		list[i] = of(i%8, uint16(i))
	}
	return list
}

// crowd is n principals, spread over so many partitions.
func crowd(n, parts int) []api.Person {
	list := make([]api.Person, n)
	for i := range list {
		list[i] = one(i%parts, of(i%8, uint16(i)))
	}
	return list
}

func made(t *testing.T, labels []api.Label, people []api.Person) *Roster {
	t.Helper()
	r, e := New(labels, people)
	if e != api.OK || r == nil {
		t.Fatal(labels, people, r, e)
	}
	return r
}

func refused(t *testing.T, labels []api.Label, people []api.Person, want api.Errno) {
	t.Helper()
	if r, e := New(labels, people); r != nil || e != want {
		t.Error(labels, people, r, e, want)
	}
}

// places is where nobody is, and no partition, if there are n: the numbers beside the list, and the ends of all numbers.
func places(n int) []int {
	return []int{math.MinInt, math.MinInt + 1, -256, -2, -1, n, n + 1, n + 256, 1 << 32, math.MaxInt}
}

// wrongLevels is those of labels that may not be.
func wrongLevels() []int {
	return []int{math.MinInt, -256, -8, -1, 8, 9, 15, 256, 1 << 32, math.MaxInt}
}

// mixed is a roster with labels above, below and aside of each other, and principals who may take off all, some or nothing.
func mixed() ([]api.Label, []api.Person) {
	labels := []api.Label{of(5, 3), of(1, 0), of(4, 2), of(4, 1)}
	people := []api.Person{
		one(0, of(7, 0xffff)), one(0, of(5, 3)), one(0, of(5, 1)), one(0, of(4, 3)), one(0, of(0, 3)), one(0, of(0, 0)),
		one(1, of(0, 0)), one(1, of(1, 0)), one(2, of(4, 2)), one(2, of(0, 2)), one(3, of(4, 1)), one(3, of(3, 1)),
	}
	return labels, people
}

func madeOfMixed(t *testing.T) *Roster {
	t.Helper()
	labels, people := mixed()
	return made(t, labels, people)
}

// P2.1

func TestHowManyPartitions(t *testing.T) {
	for n := range 20 {
		labels := partitions(n)
		if n == 0 || n > 4 {
			refused(t, labels, nil, api.ErrArg)
			continue
		}
		r := made(t, labels, nil)
		if r.Parts() != n || r.People() != 0 {
			t.Error(n, r.Parts(), r.People())
		}
	}
}

func TestHowManyPrincipals(t *testing.T) {
	for parts := 1; parts <= 4; parts++ {
		for n := range 30 {
			people := crowd(n, parts)
			if n > 12 {
				refused(t, partitions(parts), people, api.ErrArg)
				continue
			}
			r := made(t, partitions(parts), people)
			if r.Parts() != parts || r.People() != n {
				t.Error(parts, n, r.Parts(), r.People())
			}
		}
	}
}

func TestNilAndEmptyAreOne(t *testing.T) {
	for _, people := range [][]api.Person{nil, {}, make([]api.Person, 0, 5)} {
		for _, labels := range [][]api.Label{nil, {}, make([]api.Label, 0, 5)} {
			refused(t, labels, people, api.ErrArg)
		}
		if r := made(t, partitions(2), people); r.People() != 0 || r.Part(0) != -1 {
			t.Error(r.People(), r.Part(0))
		}
	}
}

func TestLabelsOfPartitions(t *testing.T) {
	for n := 1; n <= 4; n++ {
		labels := partitions(n)
		r := made(t, labels, crowd(12, n))
		for part, want := range labels {
			if l, ok := r.Label(part); l != want || !ok {
				t.Error(n, part, l, ok)
			}
		}
		for _, part := range places(n) {
			if l, ok := r.Label(part); l != (api.Label{}) || ok {
				t.Error(n, part, l, ok)
			}
		}
	}
}

func TestPartitionsOfPrincipals(t *testing.T) {
	for n := 0; n <= 12; n++ {
		people := crowd(n, 4)
		r := made(t, partitions(4), people)
		for who := range people {
			if part := r.Part(who); part != who%4 {
				t.Error(n, who, part)
			}
		}
		for _, who := range places(n) {
			if part := r.Part(who); part != -1 {
				t.Error(n, who, part)
			}
		}
	}
}

func TestEveryLevelMayBe(t *testing.T) {
	for level := 0; level <= 7; level++ {
		for _, set := range []uint16{0, 1, 0x8000, 0xffff} {
			r := made(t, []api.Label{of(level, set)}, []api.Person{one(0, of(level, set))})
			if l, ok := r.Label(0); l != of(level, set) || !ok {
				t.Error(level, set, l, ok)
			}
		}
	}
}

func TestLabelsThatMayNotBe(t *testing.T) {
	for _, level := range wrongLevels() {
		for place := range 4 {
			labels := partitions(4)
			labels[place] = of(level, 0xff)
			refused(t, labels, nil, api.ErrArg)
			refused(t, labels, crowd(12, 4), api.ErrArg)
			refused(t, labels[:place+1], nil, api.ErrArg)
		}
		for place := range 12 {
			people := crowd(12, 4)
			people[place].Auth.Level = level
			refused(t, partitions(4), people, api.ErrArg)
			refused(t, partitions(4), people[:place+1], api.ErrArg)
		}
	}
}

func TestTwoPartitionsWithOneLabel(t *testing.T) {
	for i := range 4 {
		for j := range i {
			labels := partitions(4)
			labels[i] = labels[j]
			refused(t, labels, nil, api.ErrOnce)
			refused(t, labels, crowd(12, 4), api.ErrOnce)
			refused(t, labels[:i+1], nil, api.ErrOnce)
		}
	}
	// Only the level, or only the Set, in common: two labels.
	made(t, []api.Label{of(3, 1), of(3, 2), of(4, 1), of(4, 2)}, nil)
	made(t, []api.Label{of(0, 0), of(0, 0x8000), of(7, 0), of(7, 0x8000)}, nil)
}

func TestPrincipalsOfPartitionsThatThereAreNot(t *testing.T) {
	for parts := 1; parts <= 4; parts++ {
		for place := range 12 {
			people := crowd(12, parts)
			people[place].Part = parts - 1
			made(t, partitions(parts), people)
			people[place].Part = 0
			made(t, partitions(parts), people)
			for _, part := range places(parts) {
				people[place].Part = part
				refused(t, partitions(parts), people, api.ErrRange)
				refused(t, partitions(parts), people[:place+1], api.ErrRange)
			}
		}
	}
}

func TestSeveralErrorsAtOnce(t *testing.T) {
	twins := []api.Label{of(2, 1), of(2, 1)}
	for i, c := range []struct {
		labels []api.Label
		people []api.Person
		want   api.Errno
	}{
		{nil, []api.Person{one(0, of(0, 0))}, api.ErrArg},
		{nil, []api.Person{one(-1, of(0, 0))}, api.ErrArg},
		{nil, make([]api.Person, 13), api.ErrArg},
		{make([]api.Label, 5), nil, api.ErrArg},
		{make([]api.Label, 5), []api.Person{one(9, of(0, 0))}, api.ErrArg},
		{twins, make([]api.Person, 13), api.ErrArg},
		{partitions(2), append(crowd(12, 2), one(7, of(0, 0))), api.ErrArg},
		{[]api.Label{of(8, 0), of(8, 0)}, nil, api.ErrArg},
		{[]api.Label{of(2, 1), of(2, 1), of(-1, 0)}, nil, api.ErrArg},
		{[]api.Label{of(8, 0)}, []api.Person{one(1, of(0, 0))}, api.ErrArg},
		{twins, []api.Person{one(0, of(8, 0))}, api.ErrArg},
		{twins, []api.Person{one(2, of(0, 0)), one(0, of(-1, 0))}, api.ErrArg},
		{partitions(2), []api.Person{one(2, of(8, 0))}, api.ErrArg},
		{partitions(2), []api.Person{one(2, of(0, 0)), one(1, of(8, 0))}, api.ErrArg},
		{twins, []api.Person{one(2, of(0, 0))}, api.ErrOnce},
		{twins, []api.Person{one(0, of(0, 0)), one(-1, of(0, 0))}, api.ErrOnce},
		{partitions(2), []api.Person{one(2, of(0, 0)), one(-1, of(0, 0))}, api.ErrRange},
	} {
		if r, e := New(c.labels, c.people); r != nil || e != c.want {
			t.Error(i, r, e, c.want)
		}
	}
}

func TestWhatIsHandedInIsNeitherChangedNorKept(t *testing.T) {
	labels, people := mixed()
	roomyLabels := append(make([]api.Label, 0, 9), labels[:3]...)
	roomyPeople := append(make([]api.Person, 0, 20), people[:10]...)
	spareLabels, sparePeople := roomyLabels[3:9], roomyPeople[10:20]
	for i := range spareLabels {
		spareLabels[i] = of(6, 0xaaaa)
	}
	for i := range sparePeople {
		sparePeople[i] = one(2, of(6, 0xaaaa))
	}
	oldLabels, oldPeople := slices.Clone(roomyLabels[:9]), slices.Clone(roomyPeople[:20])
	r := made(t, roomyLabels, roomyPeople)
	ahead := all(r)
	if !slices.Equal(roomyLabels[:9], oldLabels) || !slices.Equal(roomyPeople[:20], oldPeople) {
		t.Error("changed", roomyLabels[:9], roomyPeople[:20])
	}
	for i := range roomyLabels[:9] {
		roomyLabels[:9][i] = of(0, 0)
	}
	for i := range roomyPeople[:20] {
		roomyPeople[:20][i] = one(1, of(7, 0xffff))
	}
	if behind := all(r); !slices.Equal(ahead, behind) {
		t.Error("kept", ahead, behind)
	}
}

// all is what a roster answers, as numbers.
func all(r *Roster) []int {
	list := []int{r.Parts(), r.People()}
	asked, _ := mixed()
	asked = append(asked, of(0, 0), of(7, 0xffff), of(6, 0xaaaa))
	for _, l := range asked {
		list = append(list, r.Find(l))
		list = append(list, r.Below(l)...)
	}
	for part := -1; part < 6; part++ {
		l, ok := r.Label(part)
		list = append(list, l.Level, int(l.Set), bit(ok))
	}
	for who := -1; who < 14; who++ {
		list = append(list, r.Part(who))
		for part := -1; part < 6; part++ {
			list = append(list, bit(r.Sees(who, part)))
		}
		for _, l := range asked {
			list = append(list, bit(r.May(who, l)))
		}
	}
	return list
}

func bit(b bool) int {
	if b {
		return 1
	}
	return 0
}

// P2.2

func TestExample(t *testing.T) {
	low, high := of(0, 0), of(3, 1)
	r := made(t, []api.Label{low, high}, []api.Person{one(1, high), one(1, low)})
	if l := r.Below(high); !slices.Equal(l, []int{0, 1}) {
		t.Error(l)
	}
	if !r.May(0, low) || r.May(1, low) {
		t.Error(r.May(0, low), r.May(1, low))
	}
}

func TestSees(t *testing.T) {
	r := madeOfMixed(t)
	// By the principal's partition: 5:0003, 1:0000, 4:0002, 4:0001.
	want := [4][4]bool{
		{true, true, true, true},
		{false, true, false, false},
		{false, true, true, false},
		{false, true, false, true},
	}
	for who := range r.People() {
		for part := range r.Parts() {
			if got := r.Sees(who, part); got != want[r.Part(who)][part] {
				t.Error(who, part, got)
			}
		}
	}
}

func TestWhoOrWhatIsNotThereIsNotSeen(t *testing.T) {
	r := madeOfMixed(t)
	for _, who := range places(12) {
		for part := range 4 {
			if r.Sees(who, part) {
				t.Error(who, part)
			}
		}
		for _, part := range places(4) {
			if r.Sees(who, part) {
				t.Error(who, part)
			}
		}
	}
	for who := range 12 {
		for _, part := range places(4) {
			if r.Sees(who, part) {
				t.Error(who, part)
			}
		}
	}
}

func TestSeeingDoesNotHangOnAuth(t *testing.T) {
	labels := []api.Label{of(1, 0), of(4, 1)}
	r := made(t, labels, []api.Person{one(0, of(7, 0xffff)), one(1, of(0, 0))})
	if r.Sees(0, 1) || !r.Sees(0, 0) || !r.Sees(1, 0) || !r.Sees(1, 1) {
		t.Error(r.Sees(0, 1), r.Sees(0, 0), r.Sees(1, 0), r.Sees(1, 1))
	}
}

func TestMay(t *testing.T) {
	r := madeOfMixed(t)
	for _, c := range []struct {
		to   api.Label
		want []int // who may
	}{
		// To the top, and above it, nothing is taken off by anybody.
		{of(5, 3), []int{0, 1, 2, 3, 4, 5, 6, 7, 8, 9, 10, 11}},
		{of(7, 0xffff), []int{0, 1, 2, 3, 4, 5, 6, 7, 8, 9, 10, 11}},
		// To 4:0001: of 5:0003 the level 5 and the bit 2; of 4:0002 the bit 2.
		{of(4, 1), []int{0, 1, 6, 7, 8, 9, 10, 11}},
		// To 4:0002: of 5:0003 the level 5 and the bit 1; of 4:0001 the bit 1.
		{of(4, 2), []int{0, 1, 2, 6, 7, 8, 9, 10, 11}},
		// Levels alone: 5 of the first partition's people.
		{of(4, 3), []int{0, 1, 2, 6, 7, 8, 9, 10, 11}},
		// Bits alone, of a level that is none's.
		{of(7, 0), []int{0, 1, 3, 4, 6, 7, 8, 9, 10, 11}},
		{of(1, 0), []int{0, 1, 6, 7, 8, 10}},
		{of(0, 0), []int{0, 1, 7, 8, 10}},
		// Labels that may not be are held against the others like any.
		{of(-1, 0xffff), []int{0, 1, 2, 7, 8, 10}},
		{of(8, 0xffff), []int{0, 1, 2, 3, 4, 5, 6, 7, 8, 9, 10, 11}},
		{of(math.MinInt, 0), []int{0, 1, 7, 8, 10}},
		{of(math.MaxInt, 0), []int{0, 1, 3, 4, 6, 7, 8, 9, 10, 11}},
	} {
		var got []int
		for who := range r.People() {
			if r.May(who, c.to) {
				got = append(got, who)
			}
		}
		if !slices.Equal(got, c.want) {
			t.Error(c.to, got, c.want)
		}
	}
}

func TestNobodyMay(t *testing.T) {
	for n := 0; n <= 12; n++ {
		r := made(t, partitions(4), crowd(n, 4))
		for _, who := range places(n) {
			for _, to := range []api.Label{of(0, 0), of(7, 0xffff), of(-1, 0), of(8, 0)} {
				if r.May(who, to) || r.Sees(who, 0) {
					t.Error(n, who, to)
				}
			}
		}
	}
}

func TestFind(t *testing.T) {
	for n := 1; n <= 4; n++ {
		labels, _ := mixed()
		labels = labels[:n]
		r := made(t, labels, nil)
		for level := -2; level <= 9; level++ {
			for set := range 9 {
				l := of(level, uint16(set))
				if got := r.Find(l); got != slices.Index(labels, l) {
					t.Error(n, l, got)
				}
			}
		}
		for _, level := range wrongLevels() {
			if got := r.Find(of(level, labels[0].Set)); got != -1 {
				t.Error(n, level, got)
			}
		}
		for part, l := range labels {
			if got := r.Find(l); got != part {
				t.Error(n, l, got)
			}
		}
	}
}

func TestFindOfNone(t *testing.T) {
	r := made(t, []api.Label{of(3, 1)}, nil)
	for _, l := range []api.Label{of(0, 0), of(3, 0), of(0, 1), of(3, 3), of(2, 1), of(4, 1)} {
		if got := r.Find(l); got != -1 {
			t.Error(l, got)
		}
	}
}

func TestBelow(t *testing.T) {
	r := madeOfMixed(t)
	for _, c := range []struct {
		l    api.Label
		want []int
	}{
		{of(5, 3), []int{0, 1, 2, 3}},
		{of(7, 0xffff), []int{0, 1, 2, 3}},
		{of(4, 3), []int{1, 2, 3}},
		{of(4, 2), []int{1, 2}},
		{of(4, 1), []int{1, 3}},
		{of(7, 0), []int{1}},
		{of(7, 0xfffc), []int{1}},
		{of(3, 3), []int{1}},
		{of(1, 0), []int{1}},
		{of(0, 0xffff), nil},
		{of(0, 0), nil},
		{of(-1, 0xffff), nil},
		{of(8, 0xffff), []int{0, 1, 2, 3}},
		{of(math.MinInt, 0xffff), nil},
		{of(math.MaxInt, 1), []int{1, 3}},
	} {
		if got := r.Below(c.l); !slices.Equal(got, c.want) {
			t.Error(c.l, got, c.want)
		}
	}
}

func TestBelowIsNewMemory(t *testing.T) {
	r := madeOfMixed(t)
	first := r.Below(of(5, 3))
	for i := range first[:cap(first)] {
		first[:cap(first)][i] = 99
	}
	if second := r.Below(of(5, 3)); !slices.Equal(second, []int{0, 1, 2, 3}) {
		t.Error(second)
	}
}

// empty is what a roster without anything in it must answer.
func empty(t *testing.T, r *Roster) {
	t.Helper()
	if r.Parts() != 0 || r.People() != 0 {
		t.Error(r.Parts(), r.People())
	}
	for _, place := range append(places(1), 0) {
		if l, ok := r.Label(place); l != (api.Label{}) || ok {
			t.Error(place, l, ok)
		}
		if part := r.Part(place); part != -1 {
			t.Error(place, part)
		}
		if r.Sees(place, 0) || r.Sees(0, place) || r.Sees(place, place) {
			t.Error(place)
		}
		for _, l := range []api.Label{of(0, 0), of(7, 0xffff), of(-1, 0), of(8, 0)} {
			if r.May(place, l) || r.Find(l) != -1 || len(r.Below(l)) != 0 {
				t.Error(place, l)
			}
		}
	}
}

func TestNilRoster(t *testing.T) { empty(t, nil) }

func TestRosterThatNewDidNotMake(t *testing.T) { empty(t, &Roster{}) }
