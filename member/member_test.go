package member_test

import (
	"fmt"
	"math"
	"math/rand"
	"slices"
	"testing"

	"coterie/api"
	"coterie/key"
	"coterie/keytree"
	"coterie/member"
	"coterie/plan"
	"coterie/wire"
)

func k(base, step int) api.Key { return api.Key{Base: base, Step: step} }

func seat(who, slot int) api.Seat { return api.Seat{Who: who, Slot: slot} }

// item gives the node v from the node from: load under under.
func item(v, from int, under, load api.Key) api.Item {
	return api.Item{Node: v, From: from, Box: api.Box{Under: under, Load: load}}
}

// quiet is a message without seats and items.
func quiet(epoch int) api.Rekey { return api.Rekey{Epoch: epoch} }

func with(r api.Rekey, items ...api.Item) api.Rekey {
	r.Items = items
	return r
}

// out, waiting and standing are states of the three kinds that aren't blank.
func out(who, epoch int) api.Member { return api.Member{Who: who, Epoch: epoch, Out: true} }

func waiting(who, slot, epoch int, leaf api.Key) api.Member {
	return api.Member{Who: who, Slot: slot, Epoch: epoch, Leaf: leaf}
}

func standing(who, slot, epoch int, leaf, low, middle, root api.Key) api.Member {
	return api.Member{Who: who, Slot: slot, Epoch: epoch, Leaf: leaf, Path: api.Path{low, middle, root}, Has: true}
}

func behind(m api.Member, epoch int) api.Member {
	m.Behind = epoch
	return m
}

// plain stands at slot 37, whose path is 14, 3, 0, and whose leaf is 58.
func plain() api.Member {
	return standing(9, 37, 7, k(50, 4), k(60, 2), k(61, 3), k(62, 0))
}

// fresh has just its card, at the same slot.
func fresh() api.Member { return waiting(9, 37, 7, k(50, 4)) }

// rightStates are of all four kinds, and among them are those with their numbers at the bounds.
func rightStates() []api.Member {
	most := k(65535, 255)
	list := []api.Member{
		{}, out(0, 1), out(255, 200), out(7, 100), plain(), fresh(),
		waiting(0, 0, 1, k(1, 0)), waiting(255, 63, 200, most), waiting(0, 0, 199, k(1, 255)),
		standing(0, 0, 1, k(1, 0), k(1, 0), k(1, 0), k(1, 0)), standing(255, 63, 200, most, most, most, most), standing(0, 63, 199, most, k(1, 0), k(65535, 0), k(1, 255)),
	}
	for _, m := range list {
		if m.Epoch == 0 || m.Out || m.Epoch == 200 {
			continue
		}
		list = append(list, behind(m, m.Epoch+1), behind(m, 200))
	}
	return list
}

// farNumbers are beyond every limit, and among them are those that would look like a number in bounds if a conversion cut them or a sum ran over.
func farNumbers() []int {
	return []int{
		-1, -2, -21, -63, -64, -128, -255, -256, -65535, -65536, -65536 + 22, -1 << 31, -1<<31 + 22, -1 << 32, -1<<32 + 1, math.MinInt, math.MinInt + 1, math.MinInt + 22,
		65536, 65536 + 1, 65536 + 22, 1<<31 - 1, 1 << 31, 1<<31 + 22, 1<<32 - 1, 1 << 32, 1<<32 + 1, 1<<32 + 22, 1 << 62,
		math.MaxInt - 85, math.MaxInt - 1, math.MaxInt,
	}
}

// edgeNumbers are around each bound, and far ones.
func edgeNumbers() []int {
	return append(farNumbers(), 0, 1, 2, 6, 7, 8, 20, 21, 22, 62, 63, 64, 65, 84, 85, 99, 100, 101, 127, 128, 198, 199, 200, 201, 202, 254, 255, 256, 257, 32767, 32768, 65534, 65535)
}

// numbersOf are all the numbers of a state, to be written on.
func numbersOf(m *api.Member) []*int {
	return []*int{
		&m.Who, &m.Slot, &m.Epoch, &m.Behind, &m.Leaf.Base, &m.Leaf.Step,
		&m.Path[0].Base, &m.Path[0].Step, &m.Path[1].Base, &m.Path[1].Step, &m.Path[2].Base, &m.Path[2].Step,
	}
}

// otherStates are the right ones with any one number another one, or with any of the two flags turned.
func otherStates() []api.Member {
	var list []api.Member
	for _, m := range rightStates() {
		for i := range numbersOf(&m) {
			for _, n := range edgeNumbers() {
				one := m
				*numbersOf(&one)[i] = n
				list = append(list, one)
			}
		}
		for flags := range 4 {
			one := m
			one.Has, one.Out = flags&1 == 1, flags&2 == 2
			list = append(list, one, behind(one, 0), behind(one, 200))
		}
	}
	return list
}

func within(n, least, most int) bool { return least <= n && n <= most }

func modelKey(x api.Key) bool { return within(x.Base, 1, 65535) && within(x.Step, 0, 255) }

// modelKind counts what stands in the state against what a kind may have.
func modelKind(m api.Member) int {
	zero, good := 0, 0
	for _, x := range m.Path {
		if x == k(0, 0) {
			zero++
		}
		if modelKey(x) {
			good++
		}
	}
	seated := !m.Out && within(m.Who, 0, 255) && within(m.Slot, 0, 63) && within(m.Epoch, 1, 200) && modelKey(m.Leaf) && (m.Behind == 0 || within(m.Behind, m.Epoch+1, 200))
	empty := m.Slot == 0 && m.Leaf == k(0, 0) && zero == 3 && !m.Has && m.Behind == 0
	switch {
	case empty && m.Who == 0 && m.Epoch == 0 && !m.Out:
		return 0
	case empty && within(m.Who, 0, 255) && within(m.Epoch, 1, 200) && m.Out:
		return 1
	case seated && !m.Has && zero == 3:
		return 2
	case seated && m.Has && good == 3:
		return 3
	}
	return -1
}

// modelBelow: does w lie below v, without being it? It goes down through all that lie there.
func modelBelow(v, w int) bool {
	for c := 4*v + 1; c <= 4*v+4 && v <= 20; c++ {
		if c == w || modelBelow(c, w) {
			return true
		}
	}
	return false
}

func modelRekey(r api.Rekey) bool {
	ok := within(r.Epoch, 1, 200) && len(r.Leaves) <= 64 && len(r.Joins) <= 64 && len(r.Items) <= 1536
	for _, s := range append(slices.Clone(r.Leaves), r.Joins...) {
		ok = ok && within(s.Who, 0, 255) && within(s.Slot, 0, 63)
	}
	for _, x := range r.Items {
		ok = ok && within(x.Node, 0, 20) && modelBelow(x.Node, x.From) && modelKey(x.Box.Under) && modelKey(x.Box.Load)
	}
	return ok
}

// nodesAbove climbs from the slot's leaf.
func nodesAbove(slot int) [3]int {
	low := (21 + slot - 1) / 4
	return [3]int{low, (low - 1) / 4, 0}
}

// firsts has of each Node and From the first box.
func firsts(items []api.Item) map[[2]int]api.Box {
	boxes := map[[2]int]api.Box{}
	for _, x := range slices.Backward(items) {
		boxes[[2]int{x.Node, x.From}] = x.Box
	}
	return boxes
}

func modelGives(a, b api.Key) bool { return a.Base == b.Base && a.Step <= b.Step }

// modelApply goes by the chapter's words.
func modelApply(m api.Member, r api.Rekey) (api.Member, api.Errno) {
	kind := modelKind(m)
	switch {
	case kind == -1 || kind == 0:
		return m, api.ErrCard
	case kind == 1:
		return m, api.ErrOut
	case !modelRekey(r):
		return m, api.ErrWire
	case r.Epoch < m.Epoch, r.Epoch == m.Epoch && kind == 3:
		return m, api.ErrOld
	case r.Epoch == m.Epoch:
		return modelLed(m, r, modelEnter)
	case r.Epoch-m.Epoch == 1 && kind == 3:
		return modelLed(m, r, modelFollow)
	case r.Epoch > m.Behind:
		m.Behind = r.Epoch
	}
	return m, api.ErrGap
}

// modelLed keeps the old state beside an error, and takes a Behind away that is reached.
func modelLed(m api.Member, r api.Rekey, lead func(*api.Member, api.Rekey) api.Errno) (api.Member, api.Errno) {
	next := m
	if e := lead(&next, r); e != api.OK {
		return m, e
	}
	if next.Behind < next.Epoch+1 {
		next.Behind = 0
	}
	return next, api.OK
}

func modelEnter(m *api.Member, r api.Rekey) api.Errno {
	if slices.Index(r.Joins, seat(m.Who, m.Slot)) < 0 {
		return api.ErrGap
	}
	boxes, leaf := firsts(r.Items), 21+m.Slot
	from, have := leaf, m.Leaf
	for place, v := range nodesAbove(m.Slot) {
		box, ok := boxes[[2]int{v, leaf}]
		by := m.Leaf
		if !ok {
			box, ok = boxes[[2]int{v, from}]
			by = have
		}
		if !ok {
			return api.ErrItem
		}
		if !modelGives(by, box.Under) {
			return api.ErrOpen
		}
		m.Path[place], from, have = box.Load, v, box.Load
	}
	m.Has = true
	return api.OK
}

func modelFollow(m *api.Member, r api.Rekey) api.Errno {
	left := map[int]int{}
	for _, s := range r.Leaves {
		if s.Who == m.Who {
			*m = out(m.Who, r.Epoch)
			return api.OK
		}
		for _, v := range nodesAbove(s.Slot) {
			left[v]++
		}
	}
	if m.Leaf.Step == 255 {
		return api.ErrStep
	}
	m.Epoch, m.Leaf.Step = r.Epoch, m.Leaf.Step+1
	boxes := firsts(r.Items)
	from, have := 21+m.Slot, m.Leaf
	for place, v := range nodesAbove(m.Slot) {
		box, ok := boxes[[2]int{v, from}]
		switch {
		case left[v] == 0 && m.Path[place].Step == 255:
			return api.ErrStep
		case left[v] == 0:
			m.Path[place].Step++
		case !ok:
			return api.ErrItem
		case !modelGives(have, box.Under):
			return api.ErrOpen
		default:
			m.Path[place] = box.Load
		}
		from, have = v, m.Path[place]
	}
	return api.OK
}

func short(r api.Rekey) string {
	if len(r.Items) > 20 {
		return fmt.Sprint(r.Epoch, r.Leaves, r.Joins, len(r.Items), " items")
	}
	return fmt.Sprint(r)
}

func wantKind(t *testing.T, m api.Member, want int) {
	t.Helper()
	if got := member.Kind(m); got != want {
		t.Fatalf("Kind(%+v) = %d; want %d", m, got, want)
	}
}

// wantApply: the answer, and P15.2: that of a right state it is right.
func wantApply(t *testing.T, m api.Member, r api.Rekey, want api.Member, status api.Errno) api.Member {
	t.Helper()
	got, e := member.Apply(m, r)
	if got != want || e != status {
		t.Fatalf("Apply(%+v, %s)\n= %+v, %d; want\n  %+v, %d", m, short(r), got, e, want, status)
	}
	if modelKind(m) >= 0 && modelKind(got) < 0 {
		t.Fatalf("Apply(%+v, %s) = %+v, which isn't right", m, short(r), got)
	}
	return got
}

// wantRefused: the answer is this error, and the state is as it was.
func wantRefused(t *testing.T, m api.Member, r api.Rekey, status api.Errno) {
	t.Helper()
	wantApply(t, m, r, m, status)
}

// wantAsModel: the answer of the model; it is handed out too.
func wantAsModel(t *testing.T, m api.Member, r api.Rekey) (api.Member, api.Errno) {
	t.Helper()
	want, status := modelApply(m, r)
	wantApply(t, m, r, want, status)
	if status == api.OK && want.Epoch != m.Epoch && !want.Out {
		wantOneWay(t, m, want)
	}
	return want, status
}

// wantOneWay: P15.6: the leaf key is the old one advanced once, from which nobody comes back.
func wantOneWay(t *testing.T, old, next api.Member) {
	t.Helper()
	once, e := key.Ahead(old.Leaf, 1)
	if e != api.OK || next.Leaf != once || key.Gives(next.Leaf, old.Leaf) || !key.Gives(old.Leaf, next.Leaf) {
		t.Fatalf("leaf %v behind %v", next.Leaf, old.Leaf)
	}
}

func wantSeated(t *testing.T, c api.Card, want api.Member, status api.Errno) {
	t.Helper()
	if got, e := member.Seated(c); got != want || e != status {
		t.Fatalf("Seated(%+v) = %+v, %d; want %+v, %d", c, got, e, want, status)
	}
}

func wantGroup(t *testing.T, m api.Member, want api.Key, status api.Errno) {
	t.Helper()
	if got, e := member.Group(m); got != want || e != status {
		t.Fatalf("Group(%+v) = %v, %d; want %v, %d", m, got, e, want, status)
	}
}

// step is one of the server's.
func step(t *testing.T, tree api.Tree, b api.Batch) (api.Tree, api.Rekey) {
	t.Helper()
	next, r, e := plan.Next(tree, b)
	if e != api.OK {
		t.Fatalf("Next(%v) = %d", b, e)
	}
	return next, r
}

// small is the chapter's T.
func small(t *testing.T) api.Tree {
	t.Helper()
	tree, _ := step(t, keytree.Start(), api.Batch{Joins: []int{1, 2, 3}})
	return tree
}

func stands(t *testing.T, tree api.Tree, who int) api.Member {
	t.Helper()
	m, e := keytree.Stand(tree, who)
	if e != api.OK {
		t.Fatalf("%d doesn't stand: %d", who, e)
	}
	return m
}

// carded is who has just its card of this tree.
func carded(t *testing.T, tree api.Tree, who int) api.Member {
	t.Helper()
	c, e := keytree.Card(tree, who)
	if e != api.OK {
		t.Fatalf("%d has no card: %d", who, e)
	}
	m, e := member.Seated(c)
	if e != api.OK {
		t.Fatalf("%d isn't seated: %d", who, e)
	}
	return m
}

// P15.1: the kinds of right states, and of those that look like another kind's.
func TestKinds(t *testing.T) {
	wantKind(t, api.Member{}, 0)
	wantKind(t, out(0, 1), 1)
	wantKind(t, out(255, 200), 1)
	wantKind(t, fresh(), 2)
	wantKind(t, behind(fresh(), 8), 2)
	wantKind(t, plain(), 3)
	wantKind(t, behind(plain(), 8), 3)
	wantKind(t, behind(plain(), 200), 3)
	for _, m := range []api.Member{
		{Who: 1}, {Slot: 1}, {Epoch: 1}, {Leaf: k(1, 0)}, {Leaf: k(0, 1)}, {Path: api.Path{2: k(1, 0)}}, {Has: true}, {Out: true}, {Behind: 1}, {Behind: -1},
		out(256, 1), out(-1, 1), out(1, 0), out(1, 201), out(1, -1), behind(out(1, 1), 2), behind(out(1, 1), -1),
		{Who: 1, Epoch: 2, Out: true, Has: true}, {Who: 1, Epoch: 2, Out: true, Slot: 1}, {Who: 1, Epoch: 2, Out: true, Leaf: k(1, 0)}, {Who: 1, Epoch: 2, Out: true, Path: api.Path{1: k(0, 1)}},
		waiting(256, 37, 7, k(50, 4)), waiting(-1, 37, 7, k(50, 4)), waiting(9, 64, 7, k(50, 4)), waiting(9, -1, 7, k(50, 4)), waiting(9, 37, 0, k(50, 4)), waiting(9, 37, 201, k(50, 4)),
		waiting(9, 37, 7, k(0, 0)), waiting(9, 37, 7, k(65536, 0)), waiting(9, 37, 7, k(1, 256)), waiting(9, 37, 7, k(1, -1)),
		behind(fresh(), 7), behind(fresh(), 6), behind(fresh(), 1), behind(fresh(), -1), behind(fresh(), 201), behind(plain(), 7), behind(plain(), 201),
		behind(waiting(1, 1, 200, k(1, 0)), 200), behind(waiting(1, 1, 200, k(1, 0)), 201),
		standing(9, 37, 7, k(50, 4), k(0, 0), k(61, 3), k(62, 0)), standing(9, 37, 7, k(50, 4), k(60, 2), k(61, 256), k(62, 0)), standing(9, 37, 7, k(50, 4), k(60, 2), k(61, 3), k(0, 0)),
		standing(9, 37, 7, k(0, 4), k(60, 2), k(61, 3), k(62, 0)),
	} {
		wantKind(t, m, -1)
	}
	mixed := plain()
	mixed.Has = false
	wantKind(t, mixed, -1)
	mixed.Out = true
	wantKind(t, mixed, -1)
	mixed = fresh()
	mixed.Has = true
	wantKind(t, mixed, -1)
	for place := range 3 {
		mixed = fresh()
		mixed.Path[place] = k(60, 2)
		wantKind(t, mixed, -1)
		mixed.Path[place] = k(0, -1)
		wantKind(t, mixed, -1)
	}
}

// P15.1: states around every bound, with any one number another one.
func TestKindsAround(t *testing.T) {
	seen := map[int]int{}
	for _, m := range append(rightStates(), otherStates()...) {
		want := modelKind(m)
		wantKind(t, m, want)
		seen[want]++
	}
	for kind := -1; kind <= 3; kind++ {
		if seen[kind] < 10 {
			t.Errorf("only %d states of the kind %d", seen[kind], kind)
		}
	}
}

// P15.1: every Behind at every epoch.
func TestKindBehind(t *testing.T) {
	for epoch := 1; epoch <= 200; epoch++ {
		for seen := -2; seen <= 260; seen++ {
			for kind, m := range []api.Member{2: fresh(), 3: plain()} {
				if kind < 2 {
					continue
				}
				m.Epoch, m.Behind = epoch, seen
				want := -1
				if seen == 0 || seen > epoch && seen <= 200 {
					want = kind
				}
				wantKind(t, m, want)
			}
		}
	}
}

// P15.1: cards that are right: ordinary ones, at the bounds, all people, slots and epochs; the state is right, and of the kind without a path.
func TestSeated(t *testing.T) {
	take := func(who, slot, epoch int, leaf api.Key) {
		t.Helper()
		m := waiting(who, slot, epoch, leaf)
		wantSeated(t, api.Card{Who: who, Slot: slot, Epoch: epoch, Leaf: leaf}, m, api.OK)
		wantKind(t, m, 2)
	}
	take(9, 3, 2, k(25, 0))
	take(0, 0, 1, k(1, 0))
	take(255, 63, 200, k(65535, 255))
	for n := range 256 {
		take(n, n%64, 1+n%200, k(65535-n*257+n, 255-n))
	}
}

// P15.1: cards with one number that isn't right, or with several.
func TestSeatedWrong(t *testing.T) {
	wantSeated(t, api.Card{}, api.Member{}, api.ErrCard)
	right := 0
	for _, c := range []api.Card{{Who: 9, Slot: 3, Epoch: 2, Leaf: k(25, 0)}, {Who: 0, Slot: 0, Epoch: 1, Leaf: k(1, 0)}, {Who: 255, Slot: 63, Epoch: 200, Leaf: k(65535, 255)}} {
		for i := range 5 {
			for _, n := range edgeNumbers() {
				one := c
				*[]*int{&one.Who, &one.Slot, &one.Epoch, &one.Leaf.Base, &one.Leaf.Step}[i] = n
				want := waiting(one.Who, one.Slot, one.Epoch, one.Leaf)
				if modelKind(want) != 2 {
					wantSeated(t, one, api.Member{}, api.ErrCard)
					continue
				}
				wantSeated(t, one, want, api.OK)
				right++
			}
		}
	}
	if right < 30 {
		t.Errorf("only %d cards are right", right)
	}
	for _, n := range farNumbers() {
		wantSeated(t, api.Card{Who: n, Slot: n, Epoch: n, Leaf: k(n, n)}, api.Member{}, api.ErrCard)
	}
}

// P15.1: Restart takes Behind away, and nothing else, of any state, right or not.
func TestRestart(t *testing.T) {
	for _, m := range append(rightStates(), otherStates()...) {
		want := m
		want.Behind = 0
		if got := member.Restart(m); got != want {
			t.Fatalf("Restart(%+v) = %+v", m, got)
		}
	}
	if got := member.Restart(behind(plain(), 9)); got != plain() {
		t.Errorf("Restart = %+v", got)
	}
}

// P15.1: the group key is the last one of the path; who has none is told why.
func TestGroup(t *testing.T) {
	wantGroup(t, plain(), k(62, 0), api.OK)
	wantGroup(t, behind(plain(), 9), k(62, 0), api.OK)
	wantGroup(t, standing(0, 0, 1, k(1, 0), k(2, 0), k(3, 0), k(65535, 255)), k(65535, 255), api.OK)
	wantGroup(t, fresh(), api.Key{}, api.ErrGap)
	wantGroup(t, behind(fresh(), 9), api.Key{}, api.ErrGap)
	wantGroup(t, out(1, 2), api.Key{}, api.ErrOut)
	wantGroup(t, api.Member{}, api.Key{}, api.ErrCard)
	for _, m := range append(rightStates(), otherStates()...) {
		want, status := api.Key{}, api.OK
		switch modelKind(m) {
		case -1, 0:
			status = api.ErrCard
		case 1:
			status = api.ErrOut
		case 2:
			status = api.ErrGap
		case 3:
			want = m.Path[2]
		}
		wantGroup(t, m, want, status)
	}
}

// P15.2: the chapter's example 1.
func TestFollowExample(t *testing.T) {
	tree := small(t)
	first := api.Rekey{Epoch: 1}
	_, r := step(t, tree, api.Batch{Leaves: []int{1}})
	m := stands(t, tree, 2)
	next := standing(2, 1, 2, k(23, 1), k(25, 0), k(26, 0), k(27, 0))
	wantApply(t, m, r, next, api.OK)
	wantRefused(t, next, r, api.ErrOld)
	wantRefused(t, next, first, api.ErrOld)
}

// P15.2: the chapter's example 2.
func TestGapExample(t *testing.T) {
	m := stands(t, small(t), 2)
	at := func(epoch, seen int) api.Member {
		return behind(standing(2, 1, epoch, k(23, epoch-1), k(6, epoch), k(2, epoch), k(1, epoch)), seen)
	}
	m = wantApply(t, m, quiet(4), at(1, 4), api.ErrGap)
	m = wantApply(t, m, quiet(3), at(1, 4), api.ErrGap)
	m = wantApply(t, m, quiet(2), at(2, 4), api.OK)
	m = wantApply(t, m, quiet(3), at(3, 4), api.OK)
	wantApply(t, m, quiet(4), at(4, 0), api.OK)
}

// P15.2: the chapter's example 3.
func TestOutExample(t *testing.T) {
	tree := small(t)
	_, r := step(t, tree, api.Batch{Leaves: []int{1}})
	m := wantApply(t, stands(t, tree, 1), r, out(1, 2), api.OK)
	for _, later := range []api.Rekey{r, quiet(1), quiet(2), quiet(3), quiet(200), quiet(0), {Epoch: 3, Joins: []api.Seat{seat(1, 0)}}, with(quiet(3), item(5, 5, k(1, 0), k(1, 0)))} {
		wantRefused(t, m, later, api.ErrOut)
	}
}

// P15.2: the chapter's example 4.
func TestEnterExample(t *testing.T) {
	tree := small(t)
	next, r := step(t, tree, api.Batch{Joins: []int{9}})
	m := carded(t, next, 9)
	if m != waiting(9, 3, 2, k(25, 0)) {
		t.Fatalf("seated %+v", m)
	}
	wantApply(t, m, r, standing(9, 3, 2, k(25, 0), k(6, 2), k(2, 2), k(1, 2)), api.OK)
	wantRefused(t, m, with(r), api.ErrItem)
	_, others := step(t, tree, api.Batch{Joins: []int{8}})
	wantRefused(t, m, others, api.ErrGap)
	_, third := step(t, next, api.Batch{})
	wantApply(t, m, third, behind(m, 3), api.ErrGap)
}

// P15.2: the chapter's example 5.
func TestBlankExample(t *testing.T) {
	_, r := step(t, small(t), api.Batch{Joins: []int{9}})
	wantKind(t, api.Member{}, 0)
	wantRefused(t, api.Member{}, r, api.ErrCard)
	wantRefused(t, api.Member{}, quiet(0), api.ErrCard)
}

// wrongMessages each have one thing that no right message has; their epoch is one on from the ordinary states'.
func wrongMessages() []api.Rekey {
	a := k(1, 0)
	list := []api.Rekey{
		{}, {Epoch: 8, Leaves: make([]api.Seat, 65)}, {Epoch: 8, Joins: make([]api.Seat, 65)}, with(quiet(8), slices.Repeat([]api.Item{item(0, 1, a, a)}, 1537)...),
		with(quiet(8), item(5, 25, a, a)), with(quiet(8), item(5, 5, a, a)), with(quiet(8), item(21, 22, a, a)), with(quiet(8), item(0, 85, a, a)), with(quiet(8), item(-1, 0, a, a)), with(quiet(8), item(5, 1, a, a)),
		with(quiet(8), item(0, 1, k(0, 0), a)), with(quiet(8), item(0, 1, a, k(0, 0))), with(quiet(8), item(0, 1, k(1, 256), a)), with(quiet(8), item(0, 1, a, k(65536, 0))),
	}
	for _, n := range append(farNumbers(), 0, 201, 202, 255, 256, 257) {
		list = append(list, quiet(n))
	}
	for _, wrong := range []api.Seat{seat(-1, 0), seat(256, 0), seat(0, -1), seat(0, 64), seat(9, 64), seat(math.MinInt, math.MaxInt)} {
		list = append(list, api.Rekey{Epoch: 8, Leaves: []api.Seat{seat(1, 1), wrong}}, api.Rekey{Epoch: 8, Joins: []api.Seat{wrong, seat(1, 1)}})
	}
	return list
}

// P15.2: messages that aren't right: told behind ErrCard and ErrOut, ahead of all else, whatever the epoch.
func TestWrongMessages(t *testing.T) {
	for _, r := range wrongMessages() {
		if modelRekey(r) {
			t.Fatalf("right: %s", short(r))
		}
		for _, m := range []api.Member{plain(), fresh(), behind(plain(), 9), behind(fresh(), 200), waiting(9, 37, 8, k(50, 4)), standing(9, 37, 200, k(50, 255), k(60, 255), k(61, 255), k(62, 255)), waiting(0, 0, 1, k(1, 0))} {
			wantRefused(t, m, r, api.ErrWire)
		}
		wantRefused(t, api.Member{}, r, api.ErrCard)
		wantRefused(t, out(9, 7), r, api.ErrOut)
		wantRefused(t, behind(plain(), 7), r, api.ErrCard)
	}
	// A message with as much as it may have is right.
	full := with(api.Rekey{Epoch: 8, Leaves: slices.Repeat([]api.Seat{seat(1, 63)}, 64), Joins: slices.Repeat([]api.Seat{seat(255, 63)}, 64)}, slices.Repeat([]api.Item{item(0, 3, k(61, 4), k(70, 0))}, 1536)...)
	wantApply(t, plain(), full, standing(9, 37, 8, k(50, 5), k(60, 3), k(61, 4), k(70, 0)), api.OK)
}

// P15.2, R3: of states that aren't right nothing is taken, and they come back as they were.
func TestWrongStates(t *testing.T) {
	messages := []api.Rekey{quiet(1), quiet(8), quiet(200), quiet(0), {Epoch: 7, Joins: []api.Seat{seat(9, 37)}}, {Epoch: 8, Leaves: []api.Seat{seat(9, 37)}}}
	wrong := 0
	for _, m := range otherStates() {
		if modelKind(m) == -1 {
			wrong++
		}
		for _, r := range messages {
			wantAsModel(t, m, r)
		}
	}
	if wrong < 3000 {
		t.Errorf("only %d states are wrong", wrong)
	}
}

// P15.2: which of the cases holds, at every epoch of the message, for each kind.
func TestCasesByEpoch(t *testing.T) {
	for _, epoch := range []int{1, 2, 7, 100, 198, 199, 200} {
		for told := -1; told <= 202; told++ {
			has, hasnt := plain(), fresh()
			has.Epoch, hasnt.Epoch = epoch, epoch
			switch {
			case told < 1 || told > 200:
				wantRefused(t, has, quiet(told), api.ErrWire)
				wantRefused(t, hasnt, quiet(told), api.ErrWire)
			case told < epoch:
				wantRefused(t, has, quiet(told), api.ErrOld)
				wantRefused(t, hasnt, quiet(told), api.ErrOld)
			case told == epoch:
				wantRefused(t, has, quiet(told), api.ErrOld)
				wantRefused(t, hasnt, quiet(told), api.ErrGap)
			case told == epoch+1:
				wantApply(t, has, quiet(told), standing(9, 37, told, k(50, 5), k(60, 3), k(61, 4), k(62, 1)), api.OK)
				wantApply(t, hasnt, quiet(told), behind(hasnt, told), api.ErrGap)
			default:
				wantApply(t, has, quiet(told), behind(has, told), api.ErrGap)
				wantApply(t, hasnt, quiet(told), behind(hasnt, told), api.ErrGap)
			}
		}
	}
}

// P15.2: what is old or lies beyond the next one is told so ahead of what its seats and items would be told.
func TestFirstAnswers(t *testing.T) {
	left, joined := []api.Seat{seat(9, 37)}, []api.Seat{seat(9, 37)}
	shut := item(14, 58, k(999, 0), k(70, 0))
	for _, r := range []api.Rekey{{Leaves: left}, {Joins: joined}, {Leaves: left, Joins: joined}, {Joins: joined, Items: []api.Item{shut}}, {Leaves: []api.Seat{seat(1, 37)}}, {Leaves: []api.Seat{seat(1, 37)}, Items: []api.Item{shut}}} {
		at := func(epoch int) api.Rekey {
			r.Epoch = epoch
			return r
		}
		spent := plain()
		spent.Leaf.Step, spent.Path[0].Step, spent.Path[1].Step = 255, 255, 255
		for _, m := range []api.Member{plain(), spent, behind(plain(), 50)} {
			wantRefused(t, m, at(6), api.ErrOld)
			wantRefused(t, m, at(7), api.ErrOld)
			wantApply(t, m, at(9), behind(m, max(m.Behind, 9)), api.ErrGap)
		}
		wantRefused(t, fresh(), at(6), api.ErrOld)
		wantApply(t, fresh(), at(8), behind(fresh(), 8), api.ErrGap)
		wantApply(t, fresh(), at(9), behind(fresh(), 9), api.ErrGap)
	}
	// Who isn't among the joiners hears of no item; who is among the leavers neither, nor of a key that is spent.
	wantRefused(t, fresh(), with(quiet(7), shut), api.ErrGap)
	spent := standing(9, 37, 7, k(50, 255), k(60, 255), k(61, 255), k(62, 255))
	wantApply(t, spent, with(api.Rekey{Epoch: 8, Leaves: left}, shut), out(9, 8), api.OK)
	wantApply(t, spent, api.Rekey{Epoch: 8, Leaves: left}, out(9, 8), api.OK)
}

// joinedAt7 is the message by which who waits at slot 37 may enter.
func joinedAt7(items ...api.Item) api.Rekey {
	return api.Rekey{Epoch: 7, Joins: []api.Seat{seat(9, 37)}, Items: items}
}

// wantEntered: who waits at slot 37 finds these keys.
func wantEntered(t *testing.T, low, middle, root api.Key, items ...api.Item) {
	t.Helper()
	wantApply(t, fresh(), joinedAt7(items...), standing(9, 37, 7, k(50, 4), low, middle, root), api.OK)
}

// P15.2: entering by the own leaf's items, by the node below's, and by both kinds in all ways to mix them.
func TestEnterMixed(t *testing.T) {
	leaf := k(50, 4)
	for ways := range 4 {
		items := []api.Item{item(14, 58, leaf, k(70, 0)), item(3, 58, leaf, k(71, 0)), item(0, 58, leaf, k(72, 0))}
		if ways&1 == 1 {
			items[1] = item(3, 14, k(70, 0), k(71, 0))
		}
		if ways&2 == 2 {
			items[2] = item(0, 3, k(71, 0), k(72, 0))
		}
		wantEntered(t, k(70, 0), k(71, 0), k(72, 0), items...)
		slices.Reverse(items)
		wantEntered(t, k(70, 0), k(71, 0), k(72, 0), items...)
		// Each of the three is needed.
		for gone := range items {
			wantRefused(t, fresh(), joinedAt7(slices.Delete(slices.Clone(items), gone, gone+1)...), api.ErrItem)
		}
	}
}

// P15.2: the own leaf's item goes ahead of the node below's, wherever the two stand, also where it alone doesn't open.
func TestEnterOwnFirst(t *testing.T) {
	leaf := k(50, 4)
	low := item(14, 58, leaf, k(70, 0))
	own, below := item(3, 58, leaf, k(71, 0)), item(3, 14, k(70, 0), k(81, 0))
	ownRoot, belowRoot := item(0, 58, leaf, k(72, 0)), item(0, 3, k(71, 0), k(82, 0))
	wantEntered(t, k(70, 0), k(71, 0), k(72, 0), low, own, below, ownRoot, belowRoot)
	wantEntered(t, k(70, 0), k(71, 0), k(72, 0), belowRoot, below, low, ownRoot, own)
	shut := item(3, 58, k(51, 4), k(71, 0))
	wantRefused(t, fresh(), joinedAt7(low, below, shut, belowRoot), api.ErrOpen)
	wantRefused(t, fresh(), joinedAt7(shut, low, below, belowRoot), api.ErrOpen)
	shutRoot := item(0, 58, k(50, 3), k(72, 0))
	wantRefused(t, fresh(), joinedAt7(low, own, belowRoot, shutRoot), api.ErrOpen)
	// The other way round the one that isn't looked at may be shut.
	wantEntered(t, k(70, 0), k(71, 0), k(72, 0), low, item(3, 14, k(9, 9), k(81, 0)), own, item(0, 3, k(9, 9), k(82, 0)), ownRoot)
}

// P15.2: the first of several items that would do, also where that one doesn't open and a later one would.
func TestEnterFirst(t *testing.T) {
	leaf := k(50, 4)
	one := func(load int) []api.Item {
		return []api.Item{item(14, 58, leaf, k(load, 0)), item(3, 14, k(70, 0), k(load+1, 0)), item(0, 58, leaf, k(load+2, 0))}
	}
	wantEntered(t, k(70, 0), k(71, 0), k(72, 0), slices.Concat(one(70), one(80), one(90))...)
	right := one(70)
	for i, x := range right {
		shut := x
		shut.Box.Under = k(x.Box.Under.Base+1, 0)
		wantRefused(t, fresh(), joinedAt7(slices.Insert(slices.Clone(right), i, shut)...), api.ErrOpen)
		wantRefused(t, fresh(), joinedAt7(append([]api.Item{shut}, right...)...), api.ErrOpen)
		wantEntered(t, k(70, 0), k(71, 0), k(72, 0), append(slices.Clone(right), shut)...)
	}
}

// P15.2: a key opens what is under it or under a later step of it, and nothing else.
func TestEnterSteps(t *testing.T) {
	for under := range 8 {
		r := joinedAt7(item(14, 58, k(50, under), k(70, 5)), item(3, 14, k(70, 5), k(71, 0)), item(0, 3, k(71, 0), k(72, 0)))
		up := joinedAt7(item(14, 58, k(50, 4), k(70, 4)), item(3, 14, k(70, under), k(71, 0)), item(0, 3, k(71, 0), k(72, 0)))
		top := joinedAt7(item(14, 58, k(50, 4), k(70, 5)), item(3, 14, k(70, 5), k(71, 4)), item(0, 3, k(71, under), k(72, 0)))
		if under < 4 {
			wantRefused(t, fresh(), r, api.ErrOpen)
			wantRefused(t, fresh(), up, api.ErrOpen)
			wantRefused(t, fresh(), top, api.ErrOpen)
			continue
		}
		wantApply(t, fresh(), r, standing(9, 37, 7, k(50, 4), k(70, 5), k(71, 0), k(72, 0)), api.OK)
		wantApply(t, fresh(), up, standing(9, 37, 7, k(50, 4), k(70, 4), k(71, 0), k(72, 0)), api.OK)
		wantApply(t, fresh(), top, standing(9, 37, 7, k(50, 4), k(70, 5), k(71, 4), k(72, 0)), api.OK)
	}
	// The leaf key is not asked for an item from the node below, nor the key below for the own leaf's.
	wantRefused(t, fresh(), joinedAt7(item(14, 58, k(50, 4), k(70, 0)), item(3, 14, k(50, 4), k(71, 0)), item(0, 3, k(71, 0), k(72, 0))), api.ErrOpen)
	wantRefused(t, fresh(), joinedAt7(item(14, 58, k(50, 4), k(70, 0)), item(3, 58, k(70, 0), k(71, 0)), item(0, 3, k(71, 0), k(72, 0))), api.ErrOpen)
	// Nor the lowest key for the root's item.
	wantRefused(t, fresh(), joinedAt7(item(14, 58, k(50, 4), k(70, 0)), item(3, 14, k(70, 0), k(71, 0)), item(0, 3, k(70, 0), k(72, 0))), api.ErrOpen)
}

// P15.2: items of other nodes and from other nodes are no help.
func TestEnterOtherItems(t *testing.T) {
	leaf := k(50, 4)
	low, middle, root := item(14, 58, leaf, k(70, 0)), item(3, 58, leaf, k(71, 0)), item(0, 58, leaf, k(72, 0))
	for _, x := range []api.Item{item(14, 57, leaf, k(70, 0)), item(14, 59, leaf, k(70, 0)), item(13, 53, leaf, k(70, 0)), item(3, 57, leaf, k(70, 0))} {
		wantRefused(t, fresh(), joinedAt7(x, middle, root), api.ErrItem)
		wantEntered(t, k(70, 0), k(71, 0), k(72, 0), x, low, middle, root)
	}
	for _, x := range []api.Item{item(3, 13, k(70, 0), k(71, 0)), item(3, 57, leaf, k(71, 0)), item(2, 10, k(70, 0), k(71, 0)), item(0, 14, k(70, 0), k(71, 0))} {
		wantRefused(t, fresh(), joinedAt7(low, x, root), api.ErrItem)
		wantEntered(t, k(70, 0), k(71, 0), k(72, 0), x, low, middle, root)
	}
	for _, x := range []api.Item{item(0, 14, k(70, 0), k(72, 0)), item(0, 2, k(71, 0), k(72, 0)), item(0, 57, leaf, k(72, 0)), item(1, 5, leaf, k(72, 0))} {
		wantRefused(t, fresh(), joinedAt7(low, middle, x), api.ErrItem)
		wantEntered(t, k(70, 0), k(71, 0), k(72, 0), x, low, middle, root)
	}
}

// P15.2: it goes from place 0 to the root: what is wrong at a lower place is told first.
func TestEnterLowestFirst(t *testing.T) {
	leaf := k(50, 4)
	low, shutLow := item(14, 58, leaf, k(70, 0)), item(14, 58, k(99, 0), k(70, 0))
	middle, shutMiddle := item(3, 58, leaf, k(71, 0)), item(3, 58, k(99, 0), k(71, 0))
	root, shutRoot := item(0, 58, leaf, k(72, 0)), item(0, 58, k(99, 0), k(72, 0))
	for _, c := range []struct {
		want  api.Errno
		items []api.Item
	}{
		{api.ErrOpen, []api.Item{shutLow}}, {api.ErrOpen, []api.Item{shutLow, middle}}, {api.ErrOpen, []api.Item{shutLow, root}}, {api.ErrItem, []api.Item{shutMiddle, root}},
		{api.ErrItem, []api.Item{middle, shutRoot}}, {api.ErrOpen, []api.Item{low, shutMiddle}}, {api.ErrItem, []api.Item{low, shutRoot}}, {api.ErrItem, []api.Item{low, middle}},
		{api.ErrOpen, []api.Item{low, middle, shutRoot}}, {api.ErrItem, nil},
	} {
		wantRefused(t, fresh(), joinedAt7(c.items...), c.want)
	}
}

// P15.2: the joined seat is of the own person and the own slot, anywhere in the list; the left seats aren't looked at.
func TestEnterSeats(t *testing.T) {
	leaf := k(50, 4)
	r := joinedAt7(item(14, 58, leaf, k(70, 0)), item(3, 58, leaf, k(71, 0)), item(0, 58, leaf, k(72, 0)))
	entered := standing(9, 37, 7, leaf, k(70, 0), k(71, 0), k(72, 0))
	for _, joins := range [][]api.Seat{nil, {}, {seat(9, 36)}, {seat(8, 37)}, {seat(37, 9)}, {seat(9, 36), seat(8, 37)}} {
		r.Joins = joins
		wantRefused(t, fresh(), r, api.ErrGap)
		r.Leaves = []api.Seat{seat(9, 37)}
		wantRefused(t, fresh(), r, api.ErrGap)
		r.Leaves = nil
	}
	for _, joins := range [][]api.Seat{{seat(9, 37)}, {seat(1, 1), seat(9, 36), seat(8, 37), seat(9, 37)}, {seat(9, 37), seat(9, 37), seat(0, 0)}} {
		for _, leaves := range [][]api.Seat{nil, {seat(9, 37)}, {seat(9, 2)}, {seat(4, 37), seat(0, 0)}} {
			r.Joins, r.Leaves = joins, leaves
			wantApply(t, fresh(), r, entered, api.OK)
		}
	}
}

// P15.2: entering at every slot, by each way that an item may come.
func TestEnterEverySlot(t *testing.T) {
	for slot := range 64 {
		nodes, leaf := nodesAbove(slot), k(100+slot, slot)
		m := waiting(slot, slot, 200-slot, leaf)
		r := api.Rekey{Epoch: m.Epoch, Joins: []api.Seat{seat(slot, slot)}, Items: []api.Item{item(nodes[0], 21+slot, leaf, k(1, 2)), item(nodes[1], nodes[0], k(1, 2), k(3, 4)), item(0, nodes[1], k(3, 4), k(5, 6))}}
		wantApply(t, m, r, standing(slot, slot, m.Epoch, leaf, k(1, 2), k(3, 4), k(5, 6)), api.OK)
		r.Items[1] = item(nodes[1], 21+slot, leaf, k(3, 4))
		r.Items[2] = item(0, 21+slot, leaf, k(5, 6))
		wantApply(t, m, r, standing(slot, slot, m.Epoch, leaf, k(1, 2), k(3, 4), k(5, 6)), api.OK)
	}
}

// leftAt8 is the message of the next epoch, with these slots left by others.
func leftAt8(slots []int, items ...api.Item) api.Rekey {
	r := with(quiet(8), items...)
	for i, slot := range slots {
		r.Leaves = append(r.Leaves, seat(100+i, slot))
	}
	return r
}

// wantFollowed: who stands at slot 37 has these keys behind it.
func wantFollowed(t *testing.T, r api.Rekey, low, middle, root api.Key) {
	t.Helper()
	got := wantApply(t, plain(), r, standing(9, 37, 8, k(50, 5), low, middle, root), api.OK)
	wantOneWay(t, plain(), got)
}

// P15.2: nodes that are on a leaver's path come out of an item, others are advanced: where the leaver sat far, near, and beside.
func TestFollowPlaces(t *testing.T) {
	root := item(0, 3, k(61, 4), k(72, 0))
	wantFollowed(t, leftAt8(nil), k(60, 3), k(61, 4), k(62, 1))
	for _, slot := range []int{0, 15, 16, 31, 48, 63} {
		wantFollowed(t, leftAt8([]int{slot}, root), k(60, 3), k(61, 4), k(72, 0))
	}
	middle, rootAbove := item(3, 14, k(60, 3), k(71, 0)), item(0, 3, k(71, 0), k(72, 0))
	for _, slot := range []int{32, 35, 40, 43, 44, 47} {
		wantFollowed(t, leftAt8([]int{slot}, middle, rootAbove), k(60, 3), k(71, 0), k(72, 0))
		wantFollowed(t, leftAt8([]int{0, slot, 63}, rootAbove, middle), k(60, 3), k(71, 0), k(72, 0))
	}
	low, middleAbove := item(14, 58, k(50, 5), k(70, 0)), item(3, 14, k(70, 0), k(71, 0))
	for _, slot := range []int{36, 38, 39} {
		wantFollowed(t, leftAt8([]int{slot}, low, middleAbove, rootAbove), k(70, 0), k(71, 0), k(72, 0))
		wantFollowed(t, leftAt8([]int{63, 47, slot}, rootAbove, middleAbove, low), k(70, 0), k(71, 0), k(72, 0))
	}
	// The own slot, left by somebody else's number.
	wantFollowed(t, leftAt8([]int{37}, low, middleAbove, rootAbove), k(70, 0), k(71, 0), k(72, 0))
}

// P15.2: at every slot, for every slot that is left by another one: the nodes that both have above them are replaced.
func TestFollowEverySlot(t *testing.T) {
	for slot := range 64 {
		nodes := nodesAbove(slot)
		m := standing(slot, slot, 9, k(100, 1), k(101, 2), k(102, 3), k(103, 4))
		for left := range 64 {
			above := nodesAbove(left)
			want := standing(slot, slot, 10, k(100, 2), k(101, 3), k(102, 4), k(103, 5))
			r := api.Rekey{Epoch: 10, Leaves: []api.Seat{seat(255, left)}}
			from, by := 21+slot, k(100, 2)
			for place, v := range nodes {
				if slices.Contains(above[:], v) {
					want.Path[place] = k(200+place, 0)
					r.Items = append(r.Items, item(v, from, by, k(200+place, 0)))
				}
				from, by = v, want.Path[place]
			}
			wantApply(t, m, r, want, api.OK)
		}
	}
}

// P15.2: an item isn't looked at where its node is not on a leaver's path, nor one from the own leaf above place 0.
func TestFollowOtherItems(t *testing.T) {
	leaf := k(50, 5)
	forged := []api.Item{item(14, 58, leaf, k(900, 0)), item(3, 14, k(60, 3), k(901, 0)), item(0, 3, k(61, 4), k(902, 0)), item(3, 58, leaf, k(903, 0)), item(0, 58, leaf, k(904, 0))}
	wantFollowed(t, leftAt8(nil, forged...), k(60, 3), k(61, 4), k(62, 1))
	wantFollowed(t, leftAt8([]int{0}, forged...), k(60, 3), k(61, 4), k(902, 0))
	shut := []api.Item{item(14, 58, k(999, 0), k(900, 0)), item(3, 14, k(999, 0), k(901, 0)), item(0, 3, k(999, 0), k(902, 0))}
	wantFollowed(t, leftAt8(nil, shut...), k(60, 3), k(61, 4), k(62, 1))
	wantFollowed(t, leftAt8([]int{0}, append([]api.Item{item(0, 3, k(61, 4), k(72, 0))}, shut...)...), k(60, 3), k(61, 4), k(72, 0))
	// The own leaf's items, and those from two levels down, are for who joins.
	wantRefused(t, plain(), leftAt8([]int{0}, item(0, 58, leaf, k(72, 0))), api.ErrItem)
	wantRefused(t, plain(), leftAt8([]int{0}, item(0, 14, k(60, 3), k(72, 0))), api.ErrItem)
	wantRefused(t, plain(), leftAt8([]int{32}, item(3, 58, leaf, k(71, 0)), item(0, 3, k(71, 0), k(72, 0))), api.ErrItem)
	wantRefused(t, plain(), leftAt8([]int{36}, item(14, 57, leaf, k(70, 0)), item(3, 14, k(70, 0), k(71, 0)), item(0, 3, k(71, 0), k(72, 0))), api.ErrItem)
	// Joined seats, the own one too, change nothing.
	r := leftAt8(nil, forged...)
	r.Joins = []api.Seat{seat(9, 37), seat(1, 36)}
	wantFollowed(t, r, k(60, 3), k(61, 4), k(62, 1))
}

// P15.2: the first of several items; a key opens what is under it or under a later step of it.
func TestFollowFirst(t *testing.T) {
	low, middle, root := item(14, 58, k(50, 5), k(70, 0)), item(3, 14, k(70, 0), k(71, 0)), item(0, 3, k(71, 0), k(72, 0))
	wantFollowed(t, leftAt8([]int{36}, low, item(14, 58, k(50, 5), k(80, 0)), middle, item(3, 14, k(70, 0), k(81, 0)), root, item(0, 3, k(71, 0), k(82, 0))), k(70, 0), k(71, 0), k(72, 0))
	for i, x := range []api.Item{low, middle, root} {
		shut := x
		shut.Box.Under.Base = 999
		wantRefused(t, plain(), leftAt8([]int{36}, shut, low, middle, root), api.ErrOpen)
		wantFollowed(t, leftAt8([]int{36}, low, middle, root, shut), k(70, 0), k(71, 0), k(72, 0))
		all := []api.Item{low, middle, root}
		wantRefused(t, plain(), leftAt8([]int{36}, slices.Delete(all, i, i+1)...), api.ErrItem)
	}
	for under := range 10 {
		r := leftAt8([]int{36}, item(14, 58, k(50, under), k(70, 0)), middle, root)
		up := leftAt8([]int{32}, item(3, 14, k(60, under), k(71, 0)), root)
		top := leftAt8([]int{0}, item(0, 3, k(61, under), k(72, 0)))
		// The leaf key is at step 5 behind the advance, the path's keys are at 3 and 4: the old ones would open more.
		wantUnder(t, r, under >= 5, k(70, 0), k(71, 0), k(72, 0))
		wantUnder(t, up, under >= 3, k(60, 3), k(71, 0), k(72, 0))
		wantUnder(t, top, under >= 4, k(60, 3), k(61, 4), k(72, 0))
	}
}

func wantUnder(t *testing.T, r api.Rekey, opens bool, low, middle, root api.Key) {
	t.Helper()
	if !opens {
		wantRefused(t, plain(), r, api.ErrOpen)
		return
	}
	wantFollowed(t, r, low, middle, root)
}

// P15.2: a leaver that is the own person puts out, whatever slot is told with it, and wherever it stands in the list.
func TestPutOut(t *testing.T) {
	for slot := range 64 {
		for _, leaves := range [][]api.Seat{{seat(9, slot)}, {seat(1, 1), seat(9, slot)}, {seat(9, slot), seat(2, 37)}, {seat(9, slot), seat(9, 0)}} {
			r := api.Rekey{Epoch: 8, Leaves: leaves, Joins: []api.Seat{seat(9, 37)}}
			wantApply(t, plain(), r, out(9, 8), api.OK)
			wantApply(t, behind(plain(), 8), r, out(9, 8), api.OK)
			wantApply(t, behind(plain(), 200), r, out(9, 8), api.OK)
		}
	}
	wantKind(t, out(9, 8), 1)
	// Who waits for its path isn't put out: the message isn't its next one.
	r := api.Rekey{Epoch: 8, Leaves: []api.Seat{seat(9, 37)}}
	wantApply(t, fresh(), r, behind(fresh(), 8), api.ErrGap)
	last := plain()
	last.Epoch = 199
	r.Epoch = 200
	wantApply(t, last, r, out(9, 200), api.OK)
}

// P15.2: keys at the last step can't be advanced; where they are replaced they needn't.
func TestLastStep(t *testing.T) {
	at := func(leaf, low, middle, root int) api.Member {
		return standing(9, 37, 7, k(50, leaf), k(60, low), k(61, middle), k(62, root))
	}
	wantApply(t, at(254, 254, 254, 254), quiet(8), standing(9, 37, 8, k(50, 255), k(60, 255), k(61, 255), k(62, 255)), api.OK)
	for _, m := range []api.Member{at(255, 0, 0, 0), at(0, 255, 0, 0), at(0, 0, 255, 0), at(0, 0, 0, 255), at(255, 255, 255, 255)} {
		wantRefused(t, m, quiet(8), api.ErrStep)
		wantRefused(t, behind(m, 50), quiet(8), api.ErrStep)
	}
	low, middle, root := item(14, 58, k(50, 5), k(70, 0)), item(3, 14, k(70, 0), k(71, 0)), item(0, 3, k(71, 0), k(72, 0))
	wantApply(t, at(4, 255, 255, 255), leftAt8([]int{36}, low, middle, root), standing(9, 37, 8, k(50, 5), k(70, 0), k(71, 0), k(72, 0)), api.OK)
	wantApply(t, at(4, 1, 255, 255), leftAt8([]int{32}, item(3, 14, k(60, 2), k(71, 0)), root), standing(9, 37, 8, k(50, 5), k(60, 2), k(71, 0), k(72, 0)), api.OK)
	wantApply(t, at(4, 1, 1, 255), leftAt8([]int{0}, item(0, 3, k(61, 2), k(72, 0))), standing(9, 37, 8, k(50, 5), k(60, 2), k(61, 2), k(72, 0)), api.OK)
	wantRefused(t, at(4, 255, 0, 0), leftAt8([]int{32}, middle, root), api.ErrStep)
	wantRefused(t, at(4, 0, 255, 0), leftAt8([]int{0}, root), api.ErrStep)
	wantRefused(t, at(255, 0, 0, 0), leftAt8([]int{36}, low, middle, root), api.ErrStep)
	// It goes from the leaf to the root: a lower key that is spent is told ahead of an item above it that lacks, and the other way round.
	wantRefused(t, at(255, 0, 0, 0), leftAt8([]int{36}), api.ErrStep)
	wantRefused(t, at(4, 255, 0, 0), leftAt8([]int{32}), api.ErrStep)
	wantRefused(t, at(4, 0, 255, 0), leftAt8([]int{0}), api.ErrStep)
	wantRefused(t, at(4, 0, 0, 255), leftAt8([]int{0}), api.ErrItem)
	wantRefused(t, at(4, 0, 0, 255), leftAt8([]int{0}, item(0, 3, k(61, 0), k(72, 0))), api.ErrOpen)
	// A key from an item may be at the last step; it is good, and the next step is refused.
	m := wantApply(t, at(4, 1, 1, 1), leftAt8([]int{0}, item(0, 3, k(61, 255), k(72, 255))), standing(9, 37, 8, k(50, 5), k(60, 2), k(61, 2), k(72, 255)), api.OK)
	wantRefused(t, m, quiet(9), api.ErrStep)
}

// P15.2: following goes from place 0 to the root: what is wrong at a lower place is told first.
func TestFollowLowestFirst(t *testing.T) {
	low, shutLow := item(14, 58, k(50, 5), k(70, 0)), item(14, 58, k(50, 4), k(70, 0))
	middle, shutMiddle := item(3, 14, k(70, 0), k(71, 0)), item(3, 14, k(60, 3), k(71, 0))
	root, shutRoot := item(0, 3, k(71, 0), k(72, 0)), item(0, 3, k(61, 4), k(72, 0))
	for _, c := range []struct {
		want  api.Errno
		items []api.Item
	}{
		{api.ErrOpen, []api.Item{shutLow}}, {api.ErrOpen, []api.Item{root, shutLow}}, {api.ErrItem, []api.Item{shutMiddle, root}}, {api.ErrItem, []api.Item{middle, shutRoot}},
		{api.ErrOpen, []api.Item{low, shutMiddle}}, {api.ErrItem, []api.Item{low, shutRoot}}, {api.ErrOpen, []api.Item{low, middle, shutRoot}}, {api.ErrItem, nil}, {api.ErrItem, []api.Item{low, middle}},
	} {
		wantRefused(t, plain(), leftAt8([]int{39}, c.items...), c.want)
	}
}

// P15.2: Behind beside ErrGap grows and never sinks, of both kinds of seated states.
func TestBehindGrows(t *testing.T) {
	for _, m := range []api.Member{plain(), fresh()} {
		most := 0
		for _, epoch := range []int{12, 9, 10, 12, 11, 13, 200, 199, 9, 200} {
			most = max(most, epoch)
			m = wantApply(t, m, quiet(epoch), behind(m, most), api.ErrGap)
			wantRefused(t, m, quiet(6), api.ErrOld)
			wantRefused(t, m, quiet(201), api.ErrWire)
		}
	}
	// Who has no path notes the next epoch, too.
	m := wantApply(t, fresh(), quiet(8), behind(fresh(), 8), api.ErrGap)
	m = wantApply(t, m, quiet(9), behind(fresh(), 9), api.ErrGap)
	wantApply(t, m, quiet(8), behind(fresh(), 9), api.ErrGap)
	// Where the same epoch's message isn't for it, nothing is noted.
	wantRefused(t, fresh(), quiet(7), api.ErrGap)
	wantRefused(t, behind(fresh(), 9), quiet(7), api.ErrGap)
}

// P15.2: Behind is 0 where it is reached, and stays where it is still above; beside other errors it stays too.
func TestBehindReached(t *testing.T) {
	leaf := k(50, 4)
	entering := joinedAt7(item(14, 58, leaf, k(70, 0)), item(3, 58, leaf, k(71, 0)), item(0, 58, leaf, k(72, 0)))
	entered := standing(9, 37, 7, leaf, k(70, 0), k(71, 0), k(72, 0))
	followed := standing(9, 37, 8, k(50, 5), k(60, 3), k(61, 4), k(62, 1))
	for seen := 8; seen <= 200; seen++ {
		wantApply(t, behind(fresh(), seen), entering, behind(entered, seen), api.OK)
		left := seen
		if seen == 8 {
			left = 0
		}
		wantApply(t, behind(plain(), seen), quiet(8), behind(followed, left), api.OK)
		wantRefused(t, behind(plain(), seen), leftAt8([]int{0}), api.ErrItem)
		wantRefused(t, behind(plain(), seen), quiet(7), api.ErrOld)
		wantRefused(t, behind(fresh(), seen), joinedAt7(), api.ErrItem)
	}
	if m, e := member.Apply(member.Restart(behind(plain(), 50)), quiet(8)); m != followed || e != api.OK {
		t.Errorf("behind a restart: %+v, %d", m, e)
	}
}

// row is a server's trees from the epoch 0 on, and the message that leads to each (of the first one none).
type row struct {
	trees    []api.Tree
	messages []api.Rekey
}

// chanceBatch fits the tree: so many leave and join of a hundred, as far as there are seats; who leaves may come again later.
func chanceBatch(chance *rand.Rand, tree api.Tree, leaves, joins int) api.Batch {
	var b api.Batch
	on, free := map[int]int{}, 0
	for _, entry := range tree.Roster {
		if entry.Base == 0 {
			free++
			continue
		}
		on[entry.Who] = 1
		if chance.Intn(100) < leaves {
			b.Leaves = append(b.Leaves, entry.Who)
			free++
		}
	}
	for _, who := range chance.Perm(256) {
		if on[who] == 0 && len(b.Joins) < free && chance.Intn(100) < joins {
			b.Joins = append(b.Joins, who)
		}
	}
	return b
}

func chanceRow(t *testing.T, seed int64, steps int) row {
	t.Helper()
	chance := rand.New(rand.NewSource(seed))
	one := row{trees: []api.Tree{keytree.Start()}, messages: []api.Rekey{{}}}
	shares := []int{0, 0, 1, 3, 10, 40, 90}
	for range steps {
		tree := one.trees[len(one.trees)-1]
		next, r := step(t, tree, chanceBatch(chance, tree, shares[chance.Intn(7)], shares[chance.Intn(6)]))
		one.trees, one.messages = append(one.trees, next), append(one.messages, r)
	}
	return one
}

// entries are who is on, with its entry.
func entries(tree api.Tree) map[int]api.Entry {
	on := map[int]api.Entry{}
	for _, entry := range tree.Roster {
		if entry.Base != 0 {
			on[entry.Who] = entry
		}
	}
	return on
}

// wantLed: P15.3, P15.4, P15.6, P3: the step's message leads everybody who stays, puts out who left, lets in who joined; and not a second time.
func wantLed(t *testing.T, old, next api.Tree, r api.Rekey) {
	t.Helper()
	before, after := entries(old), entries(next)
	for who, entry := range before {
		m := stands(t, old, who)
		if after[who] != entry {
			gone := wantApply(t, m, r, out(who, next.Epoch), api.OK)
			wantRefused(t, gone, r, api.ErrOut)
			continue
		}
		led := wantApply(t, m, r, stands(t, next, who), api.OK)
		wantOneWay(t, m, led)
		wantRefused(t, led, r, api.ErrOld)
	}
	for who, entry := range after {
		m := carded(t, next, who)
		if entry.Since < next.Epoch {
			// A card of somebody who was on: the message isn't its own.
			wantRefused(t, m, r, api.ErrGap)
			continue
		}
		entered := wantApply(t, m, r, stands(t, next, who), api.OK)
		wantRefused(t, entered, r, api.ErrOld)
	}
	wantInStep(t, next)
}

// wantInStep: P9: all who stand at the tree have the server's group key.
func wantInStep(t *testing.T, tree api.Tree) {
	t.Helper()
	want, e := keytree.Group(tree)
	if e != api.OK {
		t.Fatal(e)
	}
	for who := range entries(tree) {
		wantGroup(t, stands(t, tree, who), want, api.OK)
	}
}

// P15.3, P15.4, P15.6: rows of steps to the last epoch, with leavers and joiners of all numbers; the messages go over the wire in between.
func TestRows(t *testing.T) {
	moved := 0
	for seed := range int64(3) {
		one := chanceRow(t, 150+seed, api.MaxEpoch)
		for i := 1; i < len(one.trees); i++ {
			text, e := wire.Encode(api.Message{Kind: api.KindRekey, Rekey: one.messages[i]})
			if e != api.OK {
				t.Fatal(e)
			}
			decoded, e := wire.Decode(text)
			if e != api.OK {
				t.Fatal(e)
			}
			wantLed(t, one.trees[i-1], one.trees[i], decoded.Rekey)
			moved += len(decoded.Rekey.Leaves) + len(decoded.Rekey.Joins)
		}
	}
	if moved < 500 {
		t.Errorf("only %d moves", moved)
	}
}

// P15.3, P15.4: the greatest steps, and one in which a person leaves whose slot another one gets at once.
func TestGreatSteps(t *testing.T) {
	var first, second []int
	for i := range 64 {
		first, second = append(first, i), append(second, 255-i)
	}
	old := keytree.Start()
	for _, b := range []api.Batch{{Joins: first}, {}, {Leaves: first, Joins: second}, {Leaves: second}, {}, {Joins: first[:3]}, {Leaves: []int{1}, Joins: []int{9}}, {Leaves: []int{9, 0}, Joins: []int{1, 8}}} {
		next, r := step(t, old, b)
		wantLed(t, old, next, r)
		old = next
	}
}

// P3: who stands at a tree, and is led on by all of the server's messages, has at each epoch just the keys of its tree, from its admission to when it leaves.
func TestJustItsKeys(t *testing.T) {
	one := chanceRow(t, 154, 120)
	devices := map[int]api.Member{}
	led, gone := 0, 0
	for i := 1; i < len(one.trees); i++ {
		on := entries(one.trees[i])
		for who, entry := range on {
			if entry.Since == i {
				devices[who] = carded(t, one.trees[i], who)
			}
		}
		for who, m := range devices {
			if m.Out {
				wantRefused(t, m, one.messages[i], api.ErrOut)
				continue
			}
			want := out(who, i)
			if _, ok := on[who]; ok {
				want = stands(t, one.trees[i], who)
				led++
			} else {
				gone++
			}
			devices[who] = wantApply(t, m, one.messages[i], want, api.OK)
		}
	}
	if led < 500 || gone < 20 {
		t.Errorf("only %d led on, %d put out", led, gone)
	}
}

// wantAnyOrder: P15.5: this device hears the row's messages in this order; it applies just those that are next.
func wantAnyOrder(t *testing.T, one row, m api.Member, order []int) api.Member {
	t.Helper()
	at := m.Epoch
	for _, i := range order {
		want, status := m, api.OK
		on, stays := entries(one.trees[at])[m.Who], false
		if i == at+1 {
			stays = entries(one.trees[i])[m.Who] == on
		}
		switch {
		case m.Out:
			status = api.ErrOut
		case i < at || i == at && m.Has:
			status = api.ErrOld
		case i == at && on.Since == at:
			want = behind(stands(t, one.trees[i], m.Who), m.Behind)
		case i == at+1 && m.Has && !stays:
			want = out(m.Who, i)
		case i == at+1 && m.Has:
			want = stands(t, one.trees[i], m.Who)
			if m.Behind > i {
				want.Behind = m.Behind
			}
		case i == at:
			status = api.ErrGap
		default:
			want.Behind, status = max(m.Behind, i), api.ErrGap
		}
		m = wantApply(t, m, one.messages[i], want, status)
		if status == api.OK {
			at = i
		}
	}
	return m
}

// P15.5: the messages of a row in any order, some of them several times: near their order, and all over the row.
func TestAnyOrder(t *testing.T) {
	chance := rand.New(rand.NewSource(155))
	far := 0
	for seed := range int64(6) {
		const steps = 30
		one := chanceRow(t, 160+seed, steps)
		for start := 1; start < steps; start += 3 {
			for who, entry := range entries(one.trees[start]) {
				m := stands(t, one.trees[start], who)
				if chance.Intn(2) == 0 {
					m = carded(t, one.trees[entry.Since], who)
				}
				var order []int
				for i := range 4 * steps {
					order = append(order, 1+chance.Intn(steps), min(steps, 1+i/4+chance.Intn(3)))
				}
				if m = wantAnyOrder(t, one, m, order); m.Epoch == steps {
					far++
				}
			}
		}
	}
	if far < 50 {
		t.Errorf("only %d come to the end", far)
	}
}

// P15.5: in their order each is applied; against it, only the next one; behind that round by round one more.
func TestOrders(t *testing.T) {
	var one row
	one.trees, one.messages = []api.Tree{keytree.Start()}, []api.Rekey{{}}
	for _, b := range []api.Batch{{Joins: []int{1, 2, 3, 4, 5, 6}}, {Leaves: []int{2}}, {}, {Joins: []int{9, 2}}, {Leaves: []int{3, 9}, Joins: []int{7}}, {}, {Leaves: []int{6}}} {
		next, r := step(t, one.trees[len(one.trees)-1], b)
		one.trees, one.messages = append(one.trees, next), append(one.messages, r)
	}
	m := stands(t, one.trees[1], 1)
	if got := wantAnyOrder(t, one, m, []int{1, 2, 3, 4, 5, 6, 7}); got != stands(t, one.trees[7], 1) {
		t.Errorf("in order: %+v", got)
	}
	if got := wantAnyOrder(t, one, m, []int{7, 6, 5, 4, 3, 2, 1}); got != behind(stands(t, one.trees[2], 1), 7) {
		t.Errorf("against it: %+v", got)
	}
	var rounds []int
	for range 6 {
		rounds = append(rounds, 7, 6, 5, 4, 3, 2, 1)
	}
	if got := wantAnyOrder(t, one, m, rounds); got != stands(t, one.trees[7], 1) {
		t.Errorf("round by round: %+v", got)
	}
	if got := wantAnyOrder(t, one, stands(t, one.trees[1], 3), rounds); got != out(3, 5) {
		t.Errorf("who left: %+v", got)
	}
	// Who left and came again isn't led in by its old state, and is by its new card.
	if got := wantAnyOrder(t, one, stands(t, one.trees[1], 2), rounds); got != out(2, 2) {
		t.Errorf("who left, and came again: %+v", got)
	}
	if got := wantAnyOrder(t, one, carded(t, one.trees[4], 2), rounds); got != stands(t, one.trees[7], 2) {
		t.Errorf("who came again: %+v", got)
	}
	if got := wantAnyOrder(t, one, carded(t, one.trees[4], 2), []int{6, 5, 3, 4, 5, 6}); got != stands(t, one.trees[6], 2) {
		t.Errorf("who came again: %+v", got)
	}
}

// P9: devices that are led on by different orders, and come to one epoch, have one group key; at another epoch another one.
func TestOneGroupKey(t *testing.T) {
	one := chanceRow(t, 156, 60)
	chance := rand.New(rand.NewSource(157))
	keys := map[int]api.Key{}
	for start := range 59 {
		for who := range entries(one.trees[start+1]) {
			m := stands(t, one.trees[start+1], who)
			for range 12 {
				m, _ = member.Apply(m, one.messages[min(60, start+1+chance.Intn(8))])
			}
			group, e := member.Group(m)
			if m.Out && e == api.ErrOut {
				continue
			}
			if held, ok := keys[m.Epoch]; e != api.OK || ok && held != group {
				t.Fatalf("%d at the epoch %d: %v, %d; others have %v", who, m.Epoch, group, e, held)
			}
			keys[m.Epoch] = group
		}
	}
	seen := map[api.Key]int{}
	for epoch, group := range keys {
		if want, _ := keytree.Group(one.trees[epoch]); group != want || seen[group] != 0 {
			t.Errorf("epoch %d: %v, the server has %v, the epoch %d had it", epoch, group, want, seen[group])
		}
		seen[group] = epoch
	}
	if len(keys) < 50 {
		t.Errorf("only %d epochs", len(keys))
	}
}

// spoilt is the message with some of its parts taken out, doubled, exchanged, or written on.
func spoilt(chance *rand.Rand, r api.Rekey) api.Rekey {
	r = api.Rekey{Epoch: r.Epoch, Leaves: slices.Clone(r.Leaves), Joins: slices.Clone(r.Joins), Items: slices.Clone(r.Items)}
	for range chance.Intn(4) {
		n := len(r.Items)
		switch way := chance.Intn(9); {
		case way == 0:
			r.Epoch += chance.Intn(5) - 2
		case way == 1 && len(r.Leaves) > 0:
			r.Leaves = r.Leaves[1:]
		case way == 2:
			r.Leaves = append(r.Leaves, seat(chance.Intn(256), chance.Intn(64)))
		case way == 3 && len(r.Joins) > 0:
			r.Joins = r.Joins[1:]
		case n == 0:
			r.Items = append(r.Items, item(0, 1+chance.Intn(4), k(1+chance.Intn(40), chance.Intn(4)), k(1+chance.Intn(40), 0)))
		case way == 4:
			at := chance.Intn(n)
			r.Items = slices.Delete(r.Items, at, at+1)
		case way == 5:
			i, j := chance.Intn(n), chance.Intn(n)
			r.Items[i], r.Items[j] = r.Items[j], r.Items[i]
		case way == 6:
			r.Items[chance.Intn(n)].Box.Under.Step += chance.Intn(3) - 1
		case way == 7:
			i, j := chance.Intn(n), chance.Intn(n)
			r.Items[i].Box = r.Items[j].Box
		case way == 8:
			r.Items = slices.Insert(r.Items, chance.Intn(n), r.Items[chance.Intn(n)])
		}
	}
	return r
}

// P15.2, R3: messages of rows that somebody has written on, for all who stand or wait there: each answer comes about.
func TestSpoiltMessages(t *testing.T) {
	chance := rand.New(rand.NewSource(158))
	seen := map[api.Errno]int{}
	for seed := range int64(4) {
		one := chanceRow(t, 170+seed, 60)
		for i := 1; i < len(one.trees); i++ {
			for who := range entries(one.trees[i]) {
				m := carded(t, one.trees[i], who)
				if entries(one.trees[i-1])[who].Base != 0 {
					m = stands(t, one.trees[i-1], who)
				}
				if chance.Intn(3) == 0 && m.Epoch < 190 {
					m.Behind = m.Epoch + 1 + chance.Intn(3)
				}
				if m.Has && chance.Intn(6) == 0 {
					*[]*int{&m.Leaf.Step, &m.Path[0].Step, &m.Path[1].Step, &m.Path[2].Step}[chance.Intn(4)] = 255
				}
				_, e := wantAsModel(t, m, spoilt(chance, one.messages[i]))
				seen[e]++
			}
		}
	}
	for _, e := range []api.Errno{api.OK, api.ErrWire, api.ErrOld, api.ErrGap, api.ErrItem, api.ErrOpen, api.ErrStep} {
		if seen[e] < 10 {
			t.Errorf("%d is answered only %d times", e, seen[e])
		}
	}
}

// chanceState is most often a right one near the ordinary numbers.
func chanceState(chance *rand.Rand, numbers []int) api.Member {
	few := func() api.Key { return k(1+chance.Intn(4), []int{0, 1, 2, 254, 255}[chance.Intn(5)]) }
	m := waiting(chance.Intn(3), chance.Intn(6), 1+chance.Intn(4), few())
	switch chance.Intn(10) {
	case 0:
		return out(chance.Intn(3), 1+chance.Intn(4))
	case 1, 2, 3:
	default:
		m.Has, m.Path = true, api.Path{few(), few(), few()}
	}
	if chance.Intn(3) == 0 {
		m.Behind = m.Epoch + 1 + chance.Intn(3)
	}
	if chance.Intn(8) == 0 {
		*numbersOf(&m)[chance.Intn(12)] = numbers[chance.Intn(len(numbers))]
	}
	return m
}

// chanceMessage has few names, nodes and people, so that much of it fits.
func chanceMessage(chance *rand.Rand, numbers []int) api.Rekey {
	few := func() api.Key { return k(1+chance.Intn(4), []int{0, 1, 2, 255, 255}[chance.Intn(5)]) }
	r := quiet(1 + chance.Intn(5))
	for range chance.Intn(3) {
		r.Leaves = append(r.Leaves, seat(chance.Intn(8), chance.Intn(20)))
	}
	for range chance.Intn(6) {
		r.Joins = append(r.Joins, seat(chance.Intn(3), chance.Intn(6)))
	}
	for range chance.Intn(40) {
		pair := [][2]int{{5, 21}, {5, 22}, {5, 23}, {5, 24}, {6, 25}, {6, 26}, {1, 5}, {1, 6}, {1, 21}, {1, 25}, {0, 1}, {0, 21}, {0, 25}, {0, 5}}[chance.Intn(14)]
		r.Items = append(r.Items, item(pair[0], pair[1], few(), few()))
	}
	if chance.Intn(20) == 0 {
		r.Epoch = numbers[chance.Intn(len(numbers))]
	}
	if len(r.Items) > 0 && chance.Intn(20) == 0 {
		x := &r.Items[chance.Intn(len(r.Items))]
		*[]*int{&x.Node, &x.From, &x.Box.Under.Base, &x.Box.Under.Step, &x.Box.Load.Base, &x.Box.Load.Step}[chance.Intn(6)] = numbers[chance.Intn(len(numbers))]
	}
	return r
}

// P1, P15.2, P15.6: whatever is handed in is answered, and as the chapter says it; of a right state the answer is right.
func TestAnything(t *testing.T) {
	chance := rand.New(rand.NewSource(159))
	numbers := edgeNumbers()
	seen := map[api.Errno]int{}
	for range 150000 {
		m, r := chanceState(chance, numbers), chanceMessage(chance, numbers)
		_, e := wantAsModel(t, m, r)
		wantKind(t, m, modelKind(m))
		seen[e]++
	}
	for _, e := range []api.Errno{api.OK, api.ErrCard, api.ErrOut, api.ErrWire, api.ErrOld, api.ErrGap, api.ErrItem, api.ErrOpen, api.ErrStep} {
		if seen[e] < 100 {
			t.Errorf("%d is answered only %d times", e, seen[e])
		}
	}
}

// P1: nothing but numbers far out, and lists far beyond every limit.
func TestFarNumbers(t *testing.T) {
	for _, n := range farNumbers() {
		for _, o := range farNumbers() {
			m := api.Member{Who: n, Slot: o, Epoch: n, Leaf: k(o, n), Path: api.Path{k(n, o), k(o, n), k(n, n)}, Behind: o}
			r := api.Rekey{Epoch: o, Leaves: []api.Seat{seat(n, o)}, Joins: []api.Seat{seat(o, n)}, Items: []api.Item{item(n, o, k(n, o), k(o, n))}}
			for flags := range 4 {
				m.Has, m.Out = flags&1 == 1, flags&2 == 2
				wantKind(t, m, -1)
				wantRefused(t, m, r, api.ErrCard)
				wantGroup(t, m, api.Key{}, api.ErrCard)
			}
			wantRefused(t, plain(), r, api.ErrWire)
			wantRefused(t, fresh(), r, api.ErrWire)
		}
	}
	long := api.Rekey{Epoch: 8, Leaves: make([]api.Seat, 1<<20), Joins: make([]api.Seat, 1<<20), Items: make([]api.Item, 1<<20)}
	wantRefused(t, plain(), long, api.ErrWire)
}

// R4: a nil list and an empty one mean the same.
func TestEmptyLists(t *testing.T) {
	empty := api.Rekey{Epoch: 8, Leaves: []api.Seat{}, Joins: make([]api.Seat, 0, 4), Items: make([]api.Item, 0, 4)}
	want, _ := modelApply(plain(), quiet(8))
	wantApply(t, plain(), empty, want, api.OK)
	empty.Epoch = 7
	wantRefused(t, fresh(), empty, api.ErrGap)
	empty.Joins = []api.Seat{seat(9, 37)}
	wantRefused(t, fresh(), empty, api.ErrItem)
}

// roomy is a list with spare room, which has something too.
func roomy[T any](list []T, spare T) []T {
	return append(slices.Clone(list), spare, spare, spare)[:len(list)]
}

// unchanged: the list of roomy still has what it had, in its spare room too.
func unchanged[T comparable](own, list []T, spare T) bool {
	return slices.Equal(own, list) && slices.Equal(own[:len(list)+3][len(list):], []T{spare, spare, spare})
}

// R5: lists that are handed in stay, their spare room too, whatever is answered. The spare room would be of use to who reads it.
func TestListsStay(t *testing.T) {
	leaf := k(50, 4)
	spareSeat, spareItem := seat(9, 37), item(0, 58, leaf, k(999, 0))
	messages := append(wrongMessages(), quiet(6), quiet(7), quiet(8), quiet(9), joinedAt7(item(14, 58, leaf, k(70, 0)), item(3, 58, leaf, k(71, 0)), item(0, 58, leaf, k(72, 0))), joinedAt7(item(14, 58, leaf, k(70, 0)), item(3, 58, leaf, k(71, 0))),
		leftAt8([]int{0, 1}, item(0, 3, k(61, 4), k(72, 0)), item(0, 3, k(61, 4), k(73, 0))), leftAt8([]int{36}), api.Rekey{Epoch: 8, Leaves: []api.Seat{seat(9, 1)}, Joins: []api.Seat{seat(9, 2)}})
	for _, r := range messages {
		own := api.Rekey{Epoch: r.Epoch, Leaves: roomy(r.Leaves, spareSeat), Joins: roomy(r.Joins, spareSeat), Items: roomy(r.Items, spareItem)}
		for _, m := range []api.Member{plain(), fresh(), {}, out(9, 7)} {
			want, status := modelApply(m, r)
			wantApply(t, m, own, want, status)
			if !unchanged(own.Leaves, r.Leaves, spareSeat) || !unchanged(own.Joins, r.Joins, spareSeat) || !unchanged(own.Items, r.Items, spareItem) {
				t.Fatalf("the lists of %s are changed", short(r))
			}
		}
	}
}

// R5, R6: an answer hangs on nothing that was asked before it, refused or not, and not on a message that is written on later.
func TestNothingKept(t *testing.T) {
	leaf := k(50, 4)
	messages := []api.Rekey{quiet(0), quiet(6), quiet(7), quiet(8), quiet(9), leftAt8([]int{0}, item(0, 3, k(61, 4), k(72, 0))), leftAt8([]int{36}), joinedAt7(item(14, 58, leaf, k(70, 0)), item(3, 58, leaf, k(71, 0)), item(0, 58, leaf, k(72, 0)))}
	states := []api.Member{plain(), fresh(), behind(plain(), 9), {}, out(9, 7), {Who: -1}}
	for _, before := range messages {
		for _, first := range states {
			for _, r := range messages {
				for _, m := range states {
					member.Apply(first, before)
					member.Restart(first)
					member.Group(first)
					wantAsModel(t, m, r)
				}
			}
		}
	}
	r := joinedAt7(item(14, 58, leaf, k(70, 0)), item(3, 58, leaf, k(71, 0)), item(0, 58, leaf, k(72, 0)))
	got, _ := member.Apply(fresh(), r)
	for i := range r.Items {
		r.Items[i] = api.Item{}
	}
	if got != standing(9, 37, 7, leaf, k(70, 0), k(71, 0), k(72, 0)) {
		t.Errorf("the state hangs on the message's memory: %+v", got)
	}
}
