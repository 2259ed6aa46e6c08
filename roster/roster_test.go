package roster_test

import (
	"fmt"
	"math"
	"math/rand"
	"slices"
	"testing"

	"coterie/api"
	"coterie/roster"
)

const full = math.MaxUint64

// at is a seat of a roster that is written out.
type at struct {
	slot  int
	entry api.Entry
}

func rosterOf(list ...at) api.Roster {
	var r api.Roster
	for _, a := range list {
		r[a.slot] = a.entry
	}
	return r
}

// two is the chapter's R.
func two() api.Roster {
	return rosterOf(at{0, api.Entry{Who: 1, Base: 22, Since: 1}}, at{2, api.Entry{Who: 3, Base: 24, Since: 1}})
}

// seated has the people 100 to 100 + n - 1 at the slots from 0 on, with the names from 1000 on.
func seated(n int) api.Roster {
	var r api.Roster
	for slot := range n {
		r[slot] = api.Entry{Who: 100 + slot, Base: 1000 + slot, Since: 1 + slot}
	}
	return r
}

// edges has the outmost right numbers at the outmost seats.
func edges() api.Roster {
	return rosterOf(at{0, api.Entry{Who: 255, Base: 32767, Since: 200}}, at{63, api.Entry{Who: 0, Base: 1, Since: 1}})
}

// row are n numbers from one on.
func row(from, n int) []int {
	list := make([]int, n)
	for i := range list {
		list[i] = from + i
	}
	return list
}

func batch(leaves, joins []int) api.Batch { return api.Batch{Leaves: leaves, Joins: joins} }

// chanceRoster is a right one with so many people, anywhere.
func chanceRoster(chance *rand.Rand, n int) api.Roster {
	var r api.Roster
	slots, people := chance.Perm(64), chance.Perm(256)
	bases := map[int]bool{}
	for i := range n {
		base := 1 + chance.Intn(32767)
		for bases[base] {
			base = 1 + chance.Intn(32767)
		}
		bases[base] = true
		r[slots[i]] = api.Entry{Who: people[i], Base: base, Since: 1 + chance.Intn(200)}
	}
	return r
}

// chanceBatch has so many who are on as leavers, and so many who aren't as joiners (fewer, if there are fewer).
func chanceBatch(chance *rand.Rand, r api.Roster, leavers, joiners int) api.Batch {
	var b api.Batch
	on := modelOn(r)
	for _, who := range chance.Perm(256) {
		if _, is := on[who]; is && len(b.Leaves) < leavers {
			b.Leaves = append(b.Leaves, who)
		} else if !is && len(b.Joins) < joiners {
			b.Joins = append(b.Joins, who)
		}
	}
	return b
}

// rightRosters are the empty one, full ones, those of the edges, each with one seat, and ordinary ones.
func rightRosters() []api.Roster {
	list := []api.Roster{{}, two(), edges(), seated(1), seated(63), seated(64)}
	for slot := range 64 {
		list = append(list, rosterOf(at{slot, api.Entry{Who: 4 * slot, Base: 1 + slot, Since: 200 - slot}}))
		hole := seated(64)
		hole[slot] = api.Entry{}
		list = append(list, hole)
	}
	chance := rand.New(rand.NewSource(91))
	for n := range 65 {
		list = append(list, chanceRoster(chance, n), chanceRoster(chance, n))
	}
	return list
}

// farNumbers are no people, no names and no epochs, and among them are those that would look like one if a conversion cut them.
func farNumbers() []int {
	return []int{
		-1, -2, -200, -255, -256, -256 + 5, -32768, -65536 + 7, -1 << 31, -1<<31 + 5, -1 << 32, -1<<32 + 5, math.MinInt, math.MinInt + 1, math.MinInt + 22,
		32768, 32769, 32768 + 5, 65535, 65536, 65536 + 22, 1<<31 - 1, 1 << 31, 1<<31 + 5, 1<<32 - 1, 1 << 32, 1<<32 + 1, 1<<32 + 5, 1 << 62, math.MaxInt - 63, math.MaxInt - 1, math.MaxInt,
	}
}

// anyRosters are those that may be wrong in whatever way.
func anyRosters() []api.Roster {
	var same, unseated api.Roster
	for slot := range same {
		same[slot] = api.Entry{Who: 7, Base: 7, Since: 7}
		unseated[slot] = api.Entry{Who: slot, Since: slot}
	}
	list := append(rightRosters(), same, unseated)
	chance := rand.New(rand.NewSource(92))
	far := append(farNumbers(), 0, 0, 0, 1, 2, 200, 255, 256)
	for range 300 {
		var r api.Roster
		for slot := range r {
			if chance.Intn(3) > 0 {
				r[slot] = api.Entry{Who: far[chance.Intn(len(far))], Base: far[chance.Intn(len(far))], Since: far[chance.Intn(len(far))]}
			}
		}
		list = append(list, r)
	}
	return list
}

// modelOn is the least slot of each who is on, by its number.
func modelOn(r api.Roster) map[int]int {
	on := map[int]int{}
	for slot := 63; slot >= 0; slot-- {
		if r[slot].Base != 0 {
			on[r[slot].Who] = slot
		}
	}
	return on
}

// modelCheck counts what stands where, instead of comparing entries.
func modelCheck(r api.Roster) api.Errno {
	people, bases := map[int]int{}, map[int]int{}
	for _, entry := range r {
		if entry == (api.Entry{}) {
			continue
		}
		people[entry.Who]++
		bases[entry.Base]++
		if entry.Who < 0 || entry.Who > 255 || entry.Base < 1 || entry.Base > 32767 || entry.Since < 1 || entry.Since > 200 {
			return api.ErrTree
		}
		if people[entry.Who] > 1 || bases[entry.Base] > 1 {
			return api.ErrTree
		}
	}
	return api.OK
}

// modelFits goes through one row of both lists, and keeps what stood in it.
func modelFits(r api.Roster, b api.Batch) api.Errno {
	if modelCheck(r) != api.OK {
		return api.ErrTree
	}
	on := modelOn(r)
	stood := map[int]bool{}
	for i, who := range slices.Concat(b.Leaves, b.Joins) {
		_, is := on[who]
		leaves := i < len(b.Leaves)
		switch {
		case who < 0 || who > 255:
			return api.ErrWho
		case stood[who]:
			return api.ErrTwice
		case leaves && !is:
			return api.ErrNotOn
		case !leaves && is:
			return api.ErrOn
		}
		stood[who] = true
	}
	if len(on)-len(b.Leaves)+len(b.Joins) > 64 {
		return api.ErrGroupFull
	}
	return api.OK
}

// moved is what Move answers.
type moved struct {
	r            api.Roster
	left, joined []api.Seat
	e            api.Errno
}

func (m moved) same(other moved) bool {
	return m.r == other.r && slices.Equal(m.left, other.left) && slices.Equal(m.joined, other.joined) && m.e == other.e
}

func move(r api.Roster, b api.Batch, since, base int) moved {
	behind, left, joined, e := roster.Move(r, b, since, base)
	return moved{behind, left, joined, e}
}

func modelMove(r api.Roster, b api.Batch, since, base int) moved {
	if e := modelFits(r, b); e != api.OK {
		return moved{e: e}
	}
	if since < 1 || since > 200 {
		return moved{e: api.ErrEpochSpent}
	}
	names := map[int]bool{}
	for _, entry := range r {
		names[entry.Base] = true // 0 too, which is no name anyway
	}
	for i := range b.Joins {
		if name := base + i; name < 1 || name > 32767 || names[name] {
			return moved{e: api.ErrKey}
		}
	}
	var left, joined []api.Seat
	on := modelOn(r)
	for _, who := range b.Leaves {
		left = append(left, api.Seat{Who: who, Slot: on[who]})
		r[on[who]] = api.Entry{}
	}
	for i, who := range b.Joins {
		slot := slices.Index(r[:], api.Entry{})
		joined = append(joined, api.Seat{Who: who, Slot: slot})
		r[slot] = api.Entry{Who: who, Base: base + i, Since: since}
	}
	return moved{r, left, joined, api.OK}
}

// told is a roster's entries that aren't zero, for a failing test.
func told(r api.Roster) string {
	text := ""
	for slot, entry := range r {
		if entry != (api.Entry{}) {
			text += fmt.Sprintf(" %d:%v", slot, entry)
		}
	}
	return "[" + text + " ]"
}

func wantCheck(t *testing.T, r api.Roster, want api.Errno) {
	t.Helper()
	if got := roster.Check(r); got != want {
		t.Fatalf("Check%s = %d, want %d", told(r), got, want)
	}
}

func wantFits(t *testing.T, r api.Roster, b api.Batch, want api.Errno) {
	t.Helper()
	if got := roster.Fits(r, b); got != want {
		t.Fatalf("Fits of %.200v in %s = %d, want %d", b, told(r), got, want)
	}
}

func wantMove(t *testing.T, r api.Roster, b api.Batch, since, base int, want moved) {
	t.Helper()
	if got := move(r, b, since, base); !got.same(want) {
		t.Fatalf("Move of %.200v, since %d, base %d, in %s\n= %s %v %v %d\nwant %s %v %v %d", b, since, base, told(r), told(got.r), got.left, got.joined, got.e, told(want.r), want.left, want.joined, want.e)
	}
}

// wantRefused: R2: beside the error the roster is zero and nobody is told.
func wantRefused(t *testing.T, r api.Roster, b api.Batch, since, base int, want api.Errno) {
	t.Helper()
	wantMove(t, r, b, since, base, moved{e: want})
}

// P9.1: the chapter's example.
func TestLooksExamples(t *testing.T) {
	r := two()
	wantCheck(t, r, api.OK)
	if got := roster.Taken(r); got != 5 {
		t.Errorf("Taken(R) = %x", got)
	}
	if three, none := roster.Find(r, 3), roster.Find(r, 2); three != 2 || none != -1 {
		t.Errorf("3 is at %d, 2 at %d", three, none)
	}
	if got := roster.People(r); !slices.Equal(got, []int{1, 3}) {
		t.Errorf("People(R) = %v", got)
	}
}

// P9.1: rosters that are right, with each number at its edges too.
func TestCheckRight(t *testing.T) {
	for _, r := range rightRosters() {
		wantCheck(t, r, api.OK)
	}
	for _, slot := range []int{0, 1, 31, 63} {
		for _, who := range []int{0, 1, 127, 128, 254, 255} {
			for _, base := range []int{1, 2, 21, 255, 256, 32766, 32767} {
				for _, since := range []int{1, 2, 127, 128, 199, 200} {
					wantCheck(t, rosterOf(at{slot, api.Entry{Who: who, Base: base, Since: since}}), api.OK)
				}
			}
		}
	}
}

// P9.1: one entry with one wrong number, at any seat, beside others that are right.
func TestCheckOneWrongNumber(t *testing.T) {
	var wrong []api.Entry
	for _, n := range farNumbers() {
		wrong = append(wrong, api.Entry{Who: n, Base: 30, Since: 1}, api.Entry{Who: 4, Base: n, Since: 1}, api.Entry{Who: 4, Base: 30, Since: n})
	}
	for _, who := range []int{256, 257, 512, 1000, 32767} {
		wrong = append(wrong, api.Entry{Who: who, Base: 30, Since: 1})
	}
	for _, since := range []int{0, 201, 202, 255, 256, 257, 1000, 32767} {
		wrong = append(wrong, api.Entry{Who: 4, Base: 30, Since: since})
	}
	for _, ground := range []api.Roster{{}, two(), edges(), seated(64)} {
		for _, slot := range []int{0, 1, 9, 62, 63} {
			for _, entry := range wrong {
				r := ground
				r[slot] = entry
				wantCheck(t, r, api.ErrTree)
				wantFits(t, r, api.Batch{}, api.ErrTree)
			}
			r := ground
			r[slot] = api.Entry{Who: 4, Base: 30, Since: 1}
			wantCheck(t, r, api.OK)
		}
	}
}

// P9.1: an entry that isn't zero and whose Base is 0.
func TestCheckFreeSeatIsZero(t *testing.T) {
	numbers := append(farNumbers(), 1, 2, 4, 200, 201, 255, 256)
	for _, slot := range []int{0, 9, 63} {
		for _, n := range numbers {
			for _, entry := range []api.Entry{{Who: n}, {Since: n}, {Who: n, Since: n}, {Who: n, Since: 1}} {
				r := seated(64)
				r[slot] = entry
				wantCheck(t, r, api.ErrTree)
				wantCheck(t, rosterOf(at{slot, entry}), api.ErrTree)
			}
		}
		r := seated(64)
		r[slot] = api.Entry{}
		wantCheck(t, r, api.OK)
	}
}

// P9.1: of any two seats: one Who, one Base; one Since is right.
func TestCheckTwoSeats(t *testing.T) {
	for one := range 64 {
		for other := range 64 {
			if one == other {
				continue
			}
			for _, ground := range []api.Roster{{}, seated(64)} {
				ground[one] = api.Entry{Who: 0, Base: 1, Since: 3}
				r := ground
				r[other] = api.Entry{Who: 0, Base: 2, Since: 5}
				wantCheck(t, r, api.ErrTree)
				r[other] = api.Entry{Who: 1, Base: 1, Since: 5}
				wantCheck(t, r, api.ErrTree)
				r[other] = ground[one]
				wantCheck(t, r, api.ErrTree)
				r[other] = api.Entry{Who: 1, Base: 2, Since: 3}
				wantCheck(t, r, api.OK)
			}
		}
	}
	// One seat's number may be another number of another seat.
	wantCheck(t, rosterOf(at{0, api.Entry{Who: 5, Base: 6, Since: 7}}, at{1, api.Entry{Who: 6, Base: 7, Since: 5}}, at{7, api.Entry{Who: 7, Base: 5, Since: 6}}), api.OK)
}

// P9.1: held against the model, whatever the roster is.
func TestCheckAny(t *testing.T) {
	for _, r := range anyRosters() {
		wantCheck(t, r, modelCheck(r))
	}
}

// P9.1: the taken seats of any roster: a seat is taken by its Base alone, also by one that is no name.
func TestTaken(t *testing.T) {
	for _, r := range anyRosters() {
		var want uint64
		for slot := 63; slot >= 0; slot-- {
			want *= 2
			if r[slot].Base != 0 {
				want++
			}
		}
		if got := roster.Taken(r); got != want {
			t.Fatalf("Taken%s = %x, want %x", told(r), got, want)
		}
	}
	if none, all := roster.Taken(api.Roster{}), roster.Taken(seated(64)); none != 0 || all != full {
		t.Errorf("of the empty roster %x, of the full one %x", none, all)
	}
	if got := roster.Taken(edges()); got != 0x8000000000000001 {
		t.Errorf("of the outmost seats %x", got)
	}
}

// P9.1: who is where, in any roster: the least slot, and only at a taken seat.
func TestFind(t *testing.T) {
	numbers := append(farNumbers(), row(-3, 263)...)
	for _, r := range anyRosters() {
		on := modelOn(r)
		for _, who := range numbers {
			want, is := on[who]
			if !is {
				want = -1
			}
			if got := roster.Find(r, who); got != want {
				t.Fatalf("Find%s of %d = %d, want %d", told(r), who, got, want)
			}
		}
	}
}

// P9.1: seats that aren't taken have nobody, seats with a name below 0 or of the adversary's have somebody.
func TestFindWrongEntries(t *testing.T) {
	r := rosterOf(at{3, api.Entry{Who: 8, Since: 1}}, at{5, api.Entry{Who: 8, Base: -1}}, at{6, api.Entry{Who: 8, Base: 2, Since: 1}}, at{63, api.Entry{Who: -4, Base: 40000, Since: 999}})
	for who, want := range map[int]int{8: 5, -4: 63, 0: -1, -1: -1, 252: -1} {
		if got := roster.Find(r, who); got != want {
			t.Errorf("%d is at %d, want %d", who, got, want)
		}
	}
	if got := roster.People(r); !slices.Equal(got, []int{-4, 8}) {
		t.Errorf("People = %v", got)
	}
	if got := roster.Taken(r); got != 1<<63|1<<6|1<<5 {
		t.Errorf("Taken = %x", got)
	}
	for _, who := range []int{0, 255, 256} {
		if got := roster.Find(api.Roster{}, who); got != -1 {
			t.Errorf("%d is at %d of the empty roster", who, got)
		}
	}
	if first, last := roster.Find(edges(), 255), roster.Find(edges(), 0); first != 0 || last != 63 {
		t.Errorf("255 is at %d, 0 at %d", first, last)
	}
}

// P9.1: the people of any roster, rising, each once.
func TestPeople(t *testing.T) {
	for _, r := range anyRosters() {
		var want []int
		for who := range modelOn(r) {
			want = append(want, who)
		}
		slices.Sort(want)
		if got := roster.People(r); !slices.Equal(got, want) {
			t.Fatalf("People%s = %v, want %v", told(r), got, want)
		}
	}
	if got := roster.People(edges()); !slices.Equal(got, []int{0, 255}) {
		t.Errorf("People = %v", got)
	}
	if got := roster.People(api.Roster{}); len(got) != 0 {
		t.Errorf("of the empty roster %v", got)
	}
}

// P9.2: the chapter's examples.
func TestFitsExamples(t *testing.T) {
	for _, c := range []struct {
		leaves, joins []int
		want          api.Errno
	}{
		{[]int{1}, []int{2}, api.OK},
		{nil, []int{3}, api.ErrOn},
		{[]int{2}, nil, api.ErrNotOn},
		{[]int{1}, []int{1}, api.ErrTwice},
		{[]int{256}, nil, api.ErrWho},
		{[]int{2}, []int{300}, api.ErrNotOn},
		{nil, row(10, 63), api.ErrGroupFull},
		{[]int{1}, row(10, 63), api.OK},
	} {
		wantFits(t, two(), batch(c.leaves, c.joins), c.want)
	}
}

// P9.2: a batch of nobody, nil or empty lists, fits every right roster; no batch fits one that isn't right.
func TestFitsNobody(t *testing.T) {
	for _, r := range anyRosters() {
		want := modelCheck(r)
		wantFits(t, r, api.Batch{}, want)
		wantFits(t, r, batch([]int{}, []int{}), want)
	}
	broken := two()
	broken[9] = api.Entry{Who: 4}
	for _, b := range []api.Batch{batch([]int{256}, nil), batch(nil, []int{-1}), batch([]int{2}, nil), batch(nil, []int{3}), batch([]int{1}, []int{1}), batch(nil, row(10, 65)), batch([]int{1}, []int{5})} {
		wantFits(t, broken, b, api.ErrTree)
		wantRefused(t, broken, b, 0, 0, api.ErrTree)
	}
}

// P9.2: leavers alone and joiners alone, each person, in an ordinary roster, an empty one and a full one.
func TestFitsOnePerson(t *testing.T) {
	for _, r := range []api.Roster{{}, two(), edges(), seated(63), seated(64), chanceRoster(rand.New(rand.NewSource(93)), 30)} {
		on := modelOn(r)
		for who := range 256 {
			leaves, joins := api.ErrNotOn, api.OK
			if len(on) == 64 {
				joins = api.ErrGroupFull
			}
			if _, is := on[who]; is {
				leaves, joins = api.OK, api.ErrOn
			}
			wantFits(t, r, batch([]int{who}, nil), leaves)
			wantFits(t, r, batch(nil, []int{who}), joins)
		}
	}
}

// P9.2: people below 0 and above 255, in either list, at each place.
func TestFitsNoPerson(t *testing.T) {
	for _, who := range append(farNumbers(), 256, 257, 300, 256+1, 512, 511) {
		wantFits(t, two(), batch([]int{who}, nil), api.ErrWho)
		wantFits(t, two(), batch(nil, []int{who}), api.ErrWho)
		wantFits(t, two(), batch([]int{1, who}, []int{5}), api.ErrWho)
		wantFits(t, two(), batch([]int{1, 3}, []int{5, 6, who}), api.ErrWho)
		wantFits(t, two(), batch([]int{who, who}, nil), api.ErrWho)
		wantFits(t, two(), batch([]int{1}, []int{who, 1}), api.ErrWho)
		wantFits(t, api.Roster{}, batch(nil, append(row(0, 256), who)), api.ErrWho)
	}
}

// P9.2: somebody who stands twice in one list, and once in each, side by side and far from one another.
func TestFitsTwice(t *testing.T) {
	r := seated(64)
	for gap := range 62 {
		leaves := row(100, gap+1)
		wantFits(t, r, batch(append(leaves, 100), nil), api.ErrTwice)
		wantFits(t, r, batch(append(leaves, 100+gap), nil), api.ErrTwice)
		wantFits(t, r, batch(row(100, 64), append(row(0, gap+1), 0)), api.ErrTwice)
		wantFits(t, r, batch(row(100, 64), append(row(0, gap+1), gap)), api.ErrTwice)
		wantFits(t, r, batch(row(100, gap+1), []int{0, 100 + gap}), api.ErrTwice)
		wantFits(t, r, batch(row(100, gap+1), []int{100}), api.ErrTwice)
	}
	wantFits(t, edges(), batch([]int{0, 0}, nil), api.ErrTwice)
	wantFits(t, edges(), batch([]int{255}, []int{255}), api.ErrTwice)
	wantFits(t, api.Roster{}, batch(nil, []int{255, 255}), api.ErrTwice)
	wantFits(t, api.Roster{}, batch(nil, []int{0, 0}), api.ErrTwice)
}

// P9.2: the first person that is wrong says which error it is, and of one person the one named first.
func TestFitsFirstError(t *testing.T) {
	for _, c := range []struct {
		leaves, joins []int
		want          api.Errno
	}{
		{[]int{2, 256}, nil, api.ErrNotOn},
		{[]int{256, 2}, nil, api.ErrWho},
		{[]int{1, 1, 256}, nil, api.ErrTwice},
		{[]int{1, 256, 1}, nil, api.ErrWho},
		{[]int{2, 2}, nil, api.ErrNotOn},
		{[]int{1, 1, 2}, nil, api.ErrTwice},
		{[]int{1, 2, 1}, nil, api.ErrNotOn},
		{[]int{2}, []int{2}, api.ErrNotOn},
		{[]int{1, 3, -1}, []int{1}, api.ErrWho},
		{nil, []int{3, 256}, api.ErrOn},
		{nil, []int{256, 3}, api.ErrWho},
		{nil, []int{3, 3}, api.ErrOn},
		{nil, []int{5, 5, 3}, api.ErrTwice},
		{nil, []int{5, 3, 5}, api.ErrOn},
		{[]int{3}, []int{1, 3}, api.ErrOn},
		{[]int{3}, []int{3, 1}, api.ErrTwice},
		{[]int{3}, []int{3, 256}, api.ErrTwice},
		{[]int{3}, []int{256, 3}, api.ErrWho},
		{[]int{2}, []int{3}, api.ErrNotOn},
		{[]int{1, 1}, []int{3}, api.ErrTwice},
		{nil, append(row(10, 63), 10), api.ErrTwice},
		{nil, append(row(10, 63), 3), api.ErrOn},
		{nil, append(row(10, 63), 256), api.ErrWho},
		{nil, append(row(10, 63), 9), api.ErrGroupFull},
		{[]int{1, 2}, row(10, 65), api.ErrNotOn},
		{[]int{1, 1}, row(10, 65), api.ErrTwice},
		{[]int{1, 3}, row(10, 65), api.ErrGroupFull},
	} {
		wantFits(t, two(), batch(c.leaves, c.joins), c.want)
		wantMove(t, two(), batch(c.leaves, c.joins), 0, 0, moved{e: c.want})
	}
}

// P9.2: lists of great length, all of one kind: the answer comes from their front.
func TestFitsLongLists(t *testing.T) {
	long := make([]int, 1<<20)
	wantFits(t, two(), batch(nil, long), api.ErrTwice)
	wantFits(t, two(), batch(long, nil), api.ErrNotOn)
	wantFits(t, edges(), batch(long, long), api.ErrTwice)
	wantFits(t, api.Roster{}, batch(nil, row(0, 1<<20)), api.ErrWho)
	wantFits(t, api.Roster{}, batch(nil, row(0, 256)), api.ErrGroupFull)
}

// P9.4: as many joiners as seats are free and one more, with the leavers' seats counted.
func TestFull(t *testing.T) {
	for n := range 65 {
		r := seated(n)
		for leavers := range n + 1 {
			free := 64 - n + leavers
			leaves := row(100+n-leavers, leavers)
			wantFits(t, r, batch(leaves, row(0, free)), api.OK)
			wantFits(t, r, batch(leaves, row(0, free+1)), api.ErrGroupFull)
			wantRefused(t, r, batch(leaves, row(0, free+1)), 1, 2000, api.ErrGroupFull)
			if free > 0 {
				wantFits(t, r, batch(leaves, row(0, free-1)), api.OK)
			}
			behind := move(r, batch(leaves, row(0, free)), 9, 2000)
			if behind.e != api.OK || roster.Taken(behind.r) != full {
				t.Fatalf("%d on, %d leave, %d join: %d, %x", n, leavers, free, behind.e, roster.Taken(behind.r))
			}
		}
	}
	wantFits(t, seated(64), batch(row(100, 64), nil), api.OK)
	wantFits(t, api.Roster{}, batch(nil, row(0, 64)), api.OK)
	wantFits(t, api.Roster{}, batch(nil, row(0, 65)), api.ErrGroupFull)
}

// P9.4: batches of people who are in order otherwise: just ErrGroupFull, and just if there are more than free seats.
func TestFullExactly(t *testing.T) {
	chance := rand.New(rand.NewSource(94))
	for range 3000 {
		r := chanceRoster(chance, chance.Intn(65))
		b := chanceBatch(chance, r, chance.Intn(65), chance.Intn(80))
		want := api.OK
		if len(b.Joins) > 64-len(modelOn(r))+len(b.Leaves) {
			want = api.ErrGroupFull
		}
		wantFits(t, r, b, want)
	}
}

// P9.2: Fits held against the model, by batches of few people, so that all errors come.
func TestFitsAny(t *testing.T) {
	chance := rand.New(rand.NewSource(95))
	count := map[api.Errno]int{}
	for range 20000 {
		r := chanceRoster(chance, 50+chance.Intn(15))
		b := chanceBatch(chance, r, chance.Intn(4), chance.Intn(12))
		if list := []*[]int{&b.Leaves, &b.Joins}[chance.Intn(2)]; chance.Intn(2) == 0 {
			*list = slices.Insert(*list, chance.Intn(len(*list)+1), chance.Intn(264)-4)
		}
		want := modelFits(r, b)
		count[want]++
		wantFits(t, r, b, want)
		wantMove(t, r, b, 1, 1, modelMove(r, b, 1, 1))
	}
	for _, e := range []api.Errno{api.OK, api.ErrWho, api.ErrTwice, api.ErrNotOn, api.ErrOn, api.ErrGroupFull} {
		if count[e] < 50 {
			t.Errorf("the error %d came %d times", e, count[e])
		}
	}
}

// P9.2: the chapter's examples.
func TestMoveExamples(t *testing.T) {
	wantMove(t, two(), batch([]int{1}, []int{5, 2}), 4, 40, moved{
		rosterOf(at{0, api.Entry{Who: 5, Base: 40, Since: 4}}, at{1, api.Entry{Who: 2, Base: 41, Since: 4}}, at{2, api.Entry{Who: 3, Base: 24, Since: 1}}),
		[]api.Seat{{Who: 1, Slot: 0}}, []api.Seat{{Who: 5, Slot: 0}, {Who: 2, Slot: 1}}, api.OK,
	})
	five := batch(nil, []int{5})
	wantRefused(t, two(), five, 4, 24, api.ErrKey)
	wantRefused(t, two(), five, 4, 32768, api.ErrKey)
	behind := two()
	behind[1] = api.Entry{Who: 5, Base: 32767, Since: 4}
	wantMove(t, two(), five, 4, 32767, moved{behind, nil, []api.Seat{{Who: 5, Slot: 1}}, api.OK})
	wantMove(t, two(), api.Batch{}, 4, 0, moved{r: two()})
	wantRefused(t, two(), five, 0, 40, api.ErrEpochSpent)
}

// P9.2: without joiners base may be any number; who leaves goes.
func TestMoveWithoutJoiners(t *testing.T) {
	for _, base := range append(farNumbers(), 0, 1, 22, 24, 40, 32767) {
		wantMove(t, two(), api.Batch{}, 4, base, moved{r: two()})
		wantMove(t, two(), batch([]int{}, []int{}), 4, base, moved{r: two()})
		wantMove(t, api.Roster{}, api.Batch{}, 4, base, moved{})
		wantMove(t, two(), batch([]int{3}, nil), 4, base, moved{r: seatedAlone(), left: []api.Seat{{Who: 3, Slot: 2}}})
		wantMove(t, two(), batch([]int{3, 1}, nil), 4, base, moved{left: []api.Seat{{Who: 3, Slot: 2}, {Who: 1, Slot: 0}}})
	}
	for _, r := range rightRosters() {
		wantMove(t, r, api.Batch{}, 200, 0, moved{r: r})
	}
}

// seatedAlone is two without its second person.
func seatedAlone() api.Roster {
	return rosterOf(at{0, api.Entry{Who: 1, Base: 22, Since: 1}})
}

// P9.2: an epoch that is none, ahead of a wrong base, and with nobody who joins too.
func TestMoveSince(t *testing.T) {
	for _, since := range append(farNumbers(), 0, 201, 202, 255, 256, 257, 456) {
		wantRefused(t, two(), batch(nil, []int{5}), since, 40, api.ErrEpochSpent)
		wantRefused(t, two(), batch(nil, []int{5}), since, 0, api.ErrEpochSpent)
		wantRefused(t, two(), batch(nil, []int{5}), since, 24, api.ErrEpochSpent)
		wantRefused(t, two(), api.Batch{}, since, 40, api.ErrEpochSpent)
		wantRefused(t, two(), batch([]int{1}, nil), since, 40, api.ErrEpochSpent)
		wantRefused(t, api.Roster{}, api.Batch{}, since, 0, api.ErrEpochSpent)
		wantRefused(t, two(), batch(nil, []int{3}), since, 40, api.ErrOn)
		wantRefused(t, seated(64), batch(nil, []int{5}), since, 40, api.ErrGroupFull)
	}
	for _, since := range []int{1, 2, 199, 200} {
		behind := two()
		behind[1] = api.Entry{Who: 5, Base: 40, Since: since}
		wantMove(t, two(), batch(nil, []int{5}), since, 40, moved{behind, nil, []api.Seat{{Who: 5, Slot: 1}}, api.OK})
		wantMove(t, two(), api.Batch{}, since, 0, moved{r: two()})
	}
}

// P9.2: the first and the last name: base and the joiners are together just OwnBase, and one above.
func TestMoveBaseEdges(t *testing.T) {
	for n := 1; n <= 64; n++ {
		for _, base := range append(farNumbers(), 0, 1, 2, 32768-n-1, 32768-n, 32768-n+1, 32767) {
			got := move(api.Roster{}, batch(nil, row(0, n)), 4, base)
			if base < 1 || base > 32768-n {
				wantRefused(t, api.Roster{}, batch(nil, row(0, n)), 4, base, api.ErrKey)
				continue
			}
			if got.e != api.OK || got.r[0].Base != base || got.r[n-1].Base != base+n-1 || len(got.joined) != n {
				t.Fatalf("%d join from %d on: %d, %s", n, base, got.e, told(got.r))
			}
		}
	}
}

// P9.2: base 0 in a full roster, where no free seat has it.
func TestMoveBaseOfFull(t *testing.T) {
	for n := 1; n <= 64; n++ {
		b := batch(row(100, n), row(0, n))
		for _, base := range []int{0, -1, -n, 1 - n} {
			wantRefused(t, seated(64), b, 4, base, api.ErrKey)
		}
		wantMove(t, seated(64), b, 4, 1, modelMove(seated(64), b, 4, 1))
	}
}

// P9.2: a name that is in use, as the first, a middle or the last one that is given, also if who has it leaves.
func TestMoveNameInUse(t *testing.T) {
	for _, used := range []int{1, 2, 500, 32000, 32766, 32767} {
		for _, slot := range []int{0, 5, 63} {
			r := rosterOf(at{slot, api.Entry{Who: 7, Base: used, Since: 200}})
			for n := 1; n <= 5; n++ {
				for base := used - n - 1; base <= used+2; base++ {
					for _, leaves := range [][]int{nil, {7}} {
						b := batch(leaves, row(20, n))
						if base < 1 || base+n > 32768 || base <= used && used < base+n {
							wantRefused(t, r, b, 4, base, api.ErrKey)
							continue
						}
						wantMove(t, r, b, 4, base, modelMove(r, b, 4, base))
						if e := move(r, b, 4, base).e; e != api.OK {
							t.Fatalf("%d is in use, %d get names from %d on: %d", used, n, base, e)
						}
					}
				}
			}
		}
	}
	// The name of anybody, and not just of the first or the last who is on.
	for slot := range 60 {
		wantRefused(t, seated(60), batch(nil, []int{0}), 4, 1000+slot, api.ErrKey)
		wantRefused(t, seated(60), batch([]int{100 + slot}, []int{0}), 4, 1000+slot, api.ErrKey)
	}
}

// P1: any roster with any batch, any epoch and any base is answered, and as the model says.
func TestMoveAnything(t *testing.T) {
	chance := rand.New(rand.NewSource(99))
	numbers := append(farNumbers(), 0, 1, 2, 3, 4, 5, 22, 100, 200, 201, 255, 256)
	pick := func() int { return numbers[chance.Intn(len(numbers))] }
	for _, r := range anyRosters() {
		for range 20 {
			var b api.Batch
			for range chance.Intn(3) {
				b.Leaves = append(b.Leaves, pick())
			}
			for range chance.Intn(3) {
				b.Joins = append(b.Joins, pick())
			}
			since, base := pick(), pick()
			wantFits(t, r, b, modelFits(r, b))
			wantMove(t, r, b, since, base, modelMove(r, b, since, base))
		}
	}
}

// P9.2: the seats that become free are given first if they are the least, in the batch's order.
func TestMoveSeats(t *testing.T) {
	got := move(seated(64), batch([]int{163, 105, 100}, []int{9, 200, 3}), 7, 1)
	want := seated(64)
	want[0], want[5], want[63] = api.Entry{Who: 9, Base: 1, Since: 7}, api.Entry{Who: 200, Base: 2, Since: 7}, api.Entry{Who: 3, Base: 3, Since: 7}
	if !got.same(moved{want, []api.Seat{{Who: 163, Slot: 63}, {Who: 105, Slot: 5}, {Who: 100, Slot: 0}}, []api.Seat{{Who: 9, Slot: 0}, {Who: 200, Slot: 5}, {Who: 3, Slot: 63}}, api.OK}) {
		t.Errorf("%s %v %v %d", told(got.r), got.left, got.joined, got.e)
	}
	got = move(edges(), batch([]int{0}, []int{1, 2}), 7, 2)
	want = rosterOf(at{0, api.Entry{Who: 255, Base: 32767, Since: 200}}, at{1, api.Entry{Who: 1, Base: 2, Since: 7}}, at{2, api.Entry{Who: 2, Base: 3, Since: 7}})
	if !got.same(moved{want, []api.Seat{{Who: 0, Slot: 63}}, []api.Seat{{Who: 1, Slot: 1}, {Who: 2, Slot: 2}}, api.OK}) {
		t.Errorf("%s %v %v %d", told(got.r), got.left, got.joined, got.e)
	}
	all := move(seated(64), batch(row(100, 64), row(0, 64)), 200, 32768-64)
	if all.e != api.OK || all.r[0] != (api.Entry{Who: 0, Base: 32704, Since: 200}) || all.r[63] != (api.Entry{Who: 63, Base: 32767, Since: 200}) {
		t.Errorf("%s %d", told(all.r), all.e)
	}
}

// P9.2, P9.3: Move held against the model; what it answers is right, and is what the two promises say by themselves.
func TestMoveAny(t *testing.T) {
	chance := rand.New(rand.NewSource(96))
	count := map[api.Errno]int{}
	for range 5000 {
		r := chanceRoster(chance, chance.Intn(65))
		b := chanceBatch(chance, r, chance.Intn(20), chance.Intn(40))
		since, base := 1+chance.Intn(200), 1+chance.Intn(32767)
		if chance.Intn(4) == 0 {
			base = r[chance.Intn(64)].Base + 1 - chance.Intn(20)
		}
		wantMove(t, r, b, since, base, modelMove(r, b, since, base))
		got := move(r, b, since, base)
		count[got.e]++
		wantCheck(t, got.r, api.OK)
		if got.e == api.OK {
			wantPeopleMoved(t, r, b, got)
		}
	}
	if count[api.OK] < 1000 || count[api.ErrKey] < 50 || count[api.ErrGroupFull] < 50 {
		t.Errorf("the answers came so often: %v", count)
	}
}

// wantPeopleMoved: P9.3, asked by Find and People.
func wantPeopleMoved(t *testing.T, r api.Roster, b api.Batch, got moved) {
	t.Helper()
	for _, who := range roster.People(r) {
		slot := roster.Find(r, who)
		if slices.Contains(b.Leaves, who) {
			if now := roster.Find(got.r, who); now != -1 || !slices.Contains(got.left, api.Seat{Who: who, Slot: slot}) {
				t.Fatalf("%d left slot %d, and is at %d; left: %v", who, slot, now, got.left)
			}
		} else if roster.Find(got.r, who) != slot || got.r[slot] != r[slot] {
			t.Fatalf("%d stays at slot %d, and is at %d with %v instead of %v", who, slot, roster.Find(got.r, who), got.r[slot], r[slot])
		}
	}
	for i, who := range b.Joins {
		if slot := roster.Find(got.r, who); slot == -1 || got.joined[i] != (api.Seat{Who: who, Slot: slot}) {
			t.Fatalf("%d joins, is at %d, and told is %v", who, slot, got.joined[i])
		}
	}
	if len(got.left) != len(b.Leaves) || len(got.joined) != len(b.Joins) {
		t.Fatalf("%d left, %d joined; told are %v and %v", len(b.Leaves), len(b.Joins), got.left, got.joined)
	}
	if now, was := len(roster.People(got.r)), len(roster.People(r)); now != was-len(b.Leaves)+len(b.Joins) {
		t.Fatalf("%d were on, %d left, %d joined, %d are on", was, len(b.Leaves), len(b.Joins), now)
	}
}

// P9.5: who joins with one batch and leaves with the next leaves the roster as it was, in whatever order.
func TestJoinAndLeave(t *testing.T) {
	chance := rand.New(rand.NewSource(97))
	for _, r := range rightRosters() {
		people := len(modelOn(r))
		for _, n := range []int{0, 1, 2, (64 - people) / 2, 64 - people} {
			b := chanceBatch(chance, r, 0, min(n, 64-people))
			in := move(r, b, 1+chance.Intn(200), firstFree(r, len(b.Joins)))
			leaves := slices.Clone(b.Joins)
			chance.Shuffle(len(leaves), func(i, j int) { leaves[i], leaves[j] = leaves[j], leaves[i] })
			out := move(in.r, batch(leaves, nil), 1+chance.Intn(200), 0)
			if in.e != api.OK || out.e != api.OK || out.r != r {
				t.Fatalf("%v join and leave: %d, %d, %s became %s", b.Joins, in.e, out.e, told(r), told(out.r))
			}
			for _, seat := range in.joined {
				if !slices.Contains(out.left, seat) {
					t.Fatalf("%v joined, %v left", in.joined, out.left)
				}
			}
		}
	}
}

// firstFree is the least name from which on n are in nobody's use.
func firstFree(r api.Roster, n int) int {
	base := 1
	for name := 1; name < base+n; name++ {
		if slices.ContainsFunc(r[:], func(entry api.Entry) bool { return entry.Base == name }) {
			base = name + 1
		}
	}
	return base
}

// P9.3: many batches behind one another: everybody who was let in and not put out is where it was told.
func TestManyMoves(t *testing.T) {
	chance := rand.New(rand.NewSource(98))
	var r api.Roster
	where := map[int]api.Entry{}
	slots := map[int]int{}
	base := 22
	for since := 1; since <= 200; since++ {
		b := chanceBatch(chance, r, chance.Intn(10), chance.Intn(12))
		got := move(r, b, since, base)
		if got.e == api.ErrGroupFull {
			continue
		}
		for _, who := range b.Leaves {
			delete(where, who)
			delete(slots, who)
		}
		for i, seat := range got.joined {
			where[seat.Who] = api.Entry{Who: seat.Who, Base: base + i, Since: since}
			slots[seat.Who] = seat.Slot
		}
		base += len(b.Joins)
		r = got.r
		wantCheck(t, r, api.OK)
		if people := roster.People(r); got.e != api.OK || len(people) != len(where) {
			t.Fatalf("epoch %d: %d, %v are on", since, got.e, people)
		}
		for who, entry := range where {
			if slot := roster.Find(r, who); slot != slots[who] || r[slot] != entry {
				t.Fatalf("epoch %d: %d is at %d, and was let in at %d", since, who, slot, slots[who])
			}
		}
	}
}

// overwrite changes a list, its spare room too.
func overwrite[T any](list []T, with T) {
	list = list[:cap(list)]
	for i := range list {
		list[i] = with
	}
}

// R5: changing a list that was answered, its spare room too, changes nothing else.
func TestAnswersAreNewMemory(t *testing.T) {
	strange := api.Seat{Who: -7, Slot: -7}
	for _, n := range []int{1, 2, 3, 5, 30} {
		r, b := seated(60), batch(row(100, n), row(0, n))
		want := modelMove(r, b, 4, 40)
		first, again := move(r, b, 4, 40), move(r, b, 4, 40)
		overwrite(first.left, strange)
		if !slices.Equal(first.joined, want.joined) || first.r != want.r {
			t.Fatalf("changing the left seats made %v of the joined ones", first.joined)
		}
		first = move(r, b, 4, 40)
		overwrite(first.joined, strange)
		if !slices.Equal(first.left, want.left) || first.r != want.r {
			t.Fatalf("changing the joined seats made %v of the left ones", first.left)
		}
		if !again.same(want) || !slices.Equal(b.Leaves, row(100, n)) || !slices.Equal(b.Joins, row(0, n)) {
			t.Fatalf("another answer became %v, the batch %v", again, b)
		}
		wantMove(t, r, b, 4, 40, want)
	}
	people, again := roster.People(seated(60)), roster.People(seated(60))
	overwrite(people, -7)
	if !slices.Equal(again, row(100, 60)) || !slices.Equal(roster.People(seated(60)), row(100, 60)) {
		t.Errorf("another answer became %v", again)
	}
}

// R5: the batch's lists stay, spare room too, and changing them later changes no answer.
func TestGivenListsStay(t *testing.T) {
	leaveRoom, joinRoom := []int{103, 101, 100, 102, 99, -3}, []int{9, 3, 5, 7, 256, 100}
	for leavers := range len(leaveRoom) + 1 {
		for joiners := range len(joinRoom) + 1 {
			leaves, joins := slices.Clone(leaveRoom), slices.Clone(joinRoom)
			b := batch(leaves[:leavers], joins[:joiners])
			want := modelMove(seated(10), b, 4, 40)
			fits := roster.Fits(seated(10), b)
			got := move(seated(10), b, 4, 40)
			if !slices.Equal(leaves, leaveRoom) || !slices.Equal(joins, joinRoom) {
				t.Fatalf("%d leave, %d join: the lists became %v and %v", leavers, joiners, leaves, joins)
			}
			overwrite(leaves, -7)
			overwrite(joins, -7)
			if fits != want.e || !got.same(want) {
				t.Fatalf("%d leave, %d join: %d, %v", leavers, joiners, fits, got)
			}
			wantMove(t, seated(10), batch(leaveRoom[:leavers], joinRoom[:joiners]), 4, 40, want)
		}
	}
	// One list of memory may be both lists.
	shared := []int{100, 101, 0, 1}
	b := batch(shared[:2], shared[2:])
	wantMove(t, seated(10), b, 4, 40, modelMove(seated(10), b, 4, 40))
	if !slices.Equal(shared, []int{100, 101, 0, 1}) {
		t.Errorf("the memory became %v", shared)
	}
}

// R6: what a call answers hangs on nothing that was asked before it.
func TestAnswersStay(t *testing.T) {
	want := modelMove(two(), batch([]int{1}, []int{5, 2}), 4, 40)
	for _, r := range anyRosters() {
		roster.Taken(r)
		roster.People(r)
		roster.Fits(r, batch([]int{5, 5}, []int{1}))
		move(r, batch(nil, []int{5}), 9, 30000)
		move(r, batch(roster.People(r), nil), 9, 0)
		wantMove(t, two(), batch([]int{1}, []int{5, 2}), 4, 40, want)
		wantFits(t, two(), batch([]int{1}, row(10, 63)), api.OK)
		if got := roster.People(two()); !slices.Equal(got, []int{1, 3}) {
			t.Fatalf("People(R) = %v", got)
		}
	}
}
