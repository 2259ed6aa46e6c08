package recovery_test

import (
	"math"
	"math/rand"
	"slices"
	"testing"

	"coterie/api"
	"coterie/key"
	"coterie/keytree"
	"coterie/member"
	"coterie/plan"
	"coterie/recovery"
	"coterie/wire"
)

func k(base, step int) api.Key { return api.Key{Base: base, Step: step} }

func ask(who, epoch int) api.Request { return api.Request{Who: who, Epoch: epoch} }

// reply has the three loads, each under its own key.
func reply(who, slot, epoch int, under [3]api.Key, loads [3]api.Key) api.Reply {
	p := api.Reply{Who: who, Slot: slot, Epoch: epoch}
	for place := range p.Path {
		p.Path[place] = api.Box{Under: under[place], Load: loads[place]}
	}
	return p
}

// underOne is a reply whose boxes are all under one key.
func underOne(who, slot, epoch int, under, low, middle, root api.Key) api.Reply {
	return reply(who, slot, epoch, [3]api.Key{under, under, under}, [3]api.Key{low, middle, root})
}

// out, waiting and standing are states of the three kinds that aren't blank.
func out(who, epoch int) api.Member { return api.Member{Who: who, Epoch: epoch, Out: true} }

func waiting(who, slot, epoch int, leaf api.Key) api.Member {
	return api.Member{Who: who, Slot: slot, Epoch: epoch, Leaf: leaf}
}

func standing(who, slot, epoch int, leaf, low, middle, root api.Key) api.Member {
	return api.Member{Who: who, Slot: slot, Epoch: epoch, Leaf: leaf, Path: api.Path{low, middle, root}, Has: true}
}

func behind(m api.Member, epoch int) api.Member {
	m.Behind = epoch
	return m
}

// plain stands at the epoch 7.
func plain() api.Member {
	return standing(9, 37, 7, k(50, 4), k(60, 2), k(61, 3), k(62, 0))
}

// fresh has just its card, at the same seat and epoch.
func fresh() api.Member { return waiting(9, 37, 7, k(50, 4)) }

// replyAt is one that plain and fresh take, from the epoch 7 on.
func replyAt(epoch int) api.Reply {
	return underOne(9, 37, epoch, k(50, epoch-3), k(70, 1), k(71, 2), k(72, 3))
}

// rightStates are of all four kinds, and among them are those with their numbers at the bounds.
func rightStates() []api.Member {
	most := k(65535, 255)
	list := []api.Member{
		{}, out(0, 1), out(255, 200), out(7, 100), plain(), fresh(),
		waiting(0, 0, 1, k(1, 0)), waiting(255, 63, 200, most), waiting(0, 0, 199, k(1, 255)),
		standing(0, 0, 1, k(1, 0), k(1, 0), k(1, 0), k(1, 0)), standing(255, 63, 200, most, most, most, most), standing(0, 63, 199, most, k(1, 0), k(65535, 0), k(1, 255)),
	}
	for _, m := range list {
		if m.Epoch == 0 || m.Out || m.Epoch == 200 {
			continue
		}
		list = append(list, behind(m, m.Epoch+1), behind(m, 200))
	}
	return list
}

// farNumbers are beyond every limit, and among them are those that would look like a number in bounds if a conversion cut them or a sum ran over.
func farNumbers() []int {
	return []int{
		-1, -2, -63, -64, -128, -255, -256, -65536, -65536 + 22, -1 << 31, -1<<31 + 22, -1 << 32, -1<<32 + 1, math.MinInt, math.MinInt + 1, math.MinInt + 22,
		65536, 65536 + 1, 65536 + 22, 1<<31 - 1, 1 << 31, 1<<31 + 22, 1<<32 - 1, 1 << 32, 1<<32 + 1, 1<<32 + 22, 1 << 62,
		math.MaxInt - 200, math.MaxInt - 1, math.MaxInt,
	}
}

// edgeNumbers are around each bound, and far ones.
func edgeNumbers() []int {
	return append(farNumbers(), 0, 1, 2, 6, 7, 8, 9, 21, 22, 37, 62, 63, 64, 65, 99, 100, 101, 127, 128, 198, 199, 200, 201, 202, 254, 255, 256, 257, 32767, 32768, 65534, 65535)
}

// numbersOf are all the numbers of a state, to be written on.
func numbersOf(m *api.Member) []*int {
	return []*int{
		&m.Who, &m.Slot, &m.Epoch, &m.Behind, &m.Leaf.Base, &m.Leaf.Step,
		&m.Path[0].Base, &m.Path[0].Step, &m.Path[1].Base, &m.Path[1].Step, &m.Path[2].Base, &m.Path[2].Step,
	}
}

// numbersIn are all the numbers of a reply, to be written on.
func numbersIn(p *api.Reply) []*int {
	list := []*int{&p.Who, &p.Slot, &p.Epoch}
	for place := range p.Path {
		box := &p.Path[place]
		list = append(list, &box.Under.Base, &box.Under.Step, &box.Load.Base, &box.Load.Step)
	}
	return list
}

// otherStates are the right ones with any one number another one, or with any of the two flags turned.
func otherStates() []api.Member {
	var list []api.Member
	for _, m := range rightStates() {
		for i := range numbersOf(&m) {
			for _, n := range edgeNumbers() {
				one := m
				*numbersOf(&one)[i] = n
				list = append(list, one)
			}
		}
		for flags := range 4 {
			one := m
			one.Has, one.Out = flags&1 == 1, flags&2 == 2
			list = append(list, one, behind(one, 0), behind(one, 200))
		}
	}
	return list
}

func within(n, least, most int) bool { return least <= n && n <= most }

func modelKey(x api.Key) bool { return within(x.Base, 1, 65535) && within(x.Step, 0, 255) }

func modelGives(a, b api.Key) bool { return a.Base == b.Base && a.Step <= b.Step }

// modelKind counts what stands in the state against what a kind may have.
func modelKind(m api.Member) int {
	zero, good := 0, 0
	for _, x := range m.Path {
		if x == k(0, 0) {
			zero++
		}
		if modelKey(x) {
			good++
		}
	}
	seated := !m.Out && within(m.Who, 0, 255) && within(m.Slot, 0, 63) && within(m.Epoch, 1, 200) && modelKey(m.Leaf) && (m.Behind == 0 || within(m.Behind, m.Epoch+1, 200))
	empty := m.Slot == 0 && m.Leaf == k(0, 0) && zero == 3 && !m.Has && m.Behind == 0
	switch {
	case empty && m.Who == 0 && m.Epoch == 0 && !m.Out:
		return 0
	case empty && within(m.Who, 0, 255) && within(m.Epoch, 1, 200) && m.Out:
		return 1
	case seated && !m.Has && zero == 3:
		return 2
	case seated && m.Has && good == 3:
		return 3
	}
	return -1
}

func modelNeeds(m api.Member) bool {
	kind := modelKind(m)
	return kind == 2 || kind == 3 && m.Behind != 0
}

func modelAsk(m api.Member) (api.Request, api.Errno) {
	switch modelKind(m) {
	case 2, 3:
		return ask(m.Who, m.Epoch), api.OK
	case 1:
		return api.Request{}, api.ErrOut
	}
	return api.Request{}, api.ErrCard
}

// nodesAbove climbs from the slot's leaf.
func nodesAbove(slot int) [3]int {
	low := (21 + slot - 1) / 4
	return [3]int{low, (low - 1) / 4, 0}
}

// modelAnswer is of a right tree.
func modelAnswer(tree api.Tree, q api.Request) (api.Reply, api.Errno) {
	if !within(q.Who, 0, 255) {
		return api.Reply{}, api.ErrWho
	}
	for slot, entry := range tree.Roster {
		if entry.Base == 0 || entry.Who != q.Who {
			continue
		}
		if !within(q.Epoch, 1, tree.Epoch) {
			return api.Reply{}, api.ErrAhead
		}
		p := api.Reply{Who: q.Who, Slot: slot, Epoch: tree.Epoch}
		for place, v := range nodesAbove(slot) {
			p.Path[place] = api.Box{Under: k(entry.Base, tree.Epoch-entry.Since), Load: tree.Keys[v]}
		}
		return p, api.OK
	}
	return api.Reply{}, api.ErrNotOn
}

func modelReply(p api.Reply) bool {
	ok := within(p.Who, 0, 255) && within(p.Slot, 0, 63) && within(p.Epoch, 1, 200)
	for _, box := range p.Path {
		ok = ok && modelKey(box.Under) && modelKey(box.Load)
	}
	return ok
}

// modelTake goes by the chapter's words.
func modelTake(m api.Member, p api.Reply) (api.Member, api.Errno) {
	if _, e := modelAsk(m); e != api.OK {
		return m, e
	}
	if !modelReply(p) {
		return m, api.ErrWire
	}
	if p.Who != m.Who || p.Slot != m.Slot {
		return m, api.ErrMine
	}
	if p.Epoch < m.Epoch || p.Epoch == m.Epoch && m.Has {
		return m, api.ErrOld
	}
	leaf := k(m.Leaf.Base, m.Leaf.Step+p.Epoch-m.Epoch)
	if leaf.Step > 255 {
		return m, api.ErrStep
	}
	next := waiting(m.Who, m.Slot, p.Epoch, leaf)
	next.Has = true
	if m.Behind > p.Epoch {
		next.Behind = m.Behind
	}
	for place, box := range p.Path {
		if !modelGives(leaf, box.Under) {
			return m, api.ErrOpen
		}
		next.Path[place] = box.Load
	}
	return next, api.OK
}

func wantNeeds(t *testing.T, m api.Member, want bool) {
	t.Helper()
	if got := recovery.Needs(m); got != want {
		t.Fatalf("Needs(%+v) = %v", m, got)
	}
}

func wantAsk(t *testing.T, m api.Member, want api.Request, status api.Errno) {
	t.Helper()
	if got, e := recovery.Ask(m); got != want || e != status {
		t.Fatalf("Ask(%+v) = %v, %d; want %v, %d", m, got, e, want, status)
	}
}

func wantAnswer(t *testing.T, tree api.Tree, q api.Request, want api.Reply, status api.Errno) api.Reply {
	t.Helper()
	got, e := recovery.Answer(tree, q)
	if got != want || e != status {
		t.Fatalf("at the epoch %d: Answer(%v)\n= %+v, %d; want\n  %+v, %d", tree.Epoch, q, got, e, want, status)
	}
	return got
}

// wantNoAnswer: the answer is this error, and the reply is the zero one.
func wantNoAnswer(t *testing.T, tree api.Tree, q api.Request, status api.Errno) {
	t.Helper()
	wantAnswer(t, tree, q, api.Reply{}, status)
}

// wantTake: the answer, and P16.2: that of a right state it is right.
func wantTake(t *testing.T, m api.Member, p api.Reply, want api.Member, status api.Errno) api.Member {
	t.Helper()
	got, e := recovery.Take(m, p)
	if got != want || e != status {
		t.Fatalf("Take(%+v, %+v)\n= %+v, %d; want\n  %+v, %d", m, p, got, e, want, status)
	}
	if modelKind(m) >= 0 && modelKind(got) < 0 {
		t.Fatalf("Take(%+v, %+v) = %+v, which isn't right", m, p, got)
	}
	return got
}

// wantRefused: the answer is this error, and the state is as it was.
func wantRefused(t *testing.T, m api.Member, p api.Reply, status api.Errno) {
	t.Helper()
	wantTake(t, m, p, m, status)
}

// wantAsModel: the answer is the model's; a reply that was taken is old.
func wantAsModel(t *testing.T, m api.Member, p api.Reply) api.Errno {
	t.Helper()
	want, status := modelTake(m, p)
	got := wantTake(t, m, p, want, status)
	if status == api.OK {
		wantRefused(t, got, p, api.ErrOld)
	}
	return status
}

// step is one of the server's.
func step(t *testing.T, tree api.Tree, b api.Batch) (api.Tree, api.Rekey) {
	t.Helper()
	next, r, e := plan.Next(tree, b)
	if e != api.OK {
		t.Fatalf("Next(%v) = %d", b, e)
	}
	return next, r
}

// later is the tree so many steps of nobody on.
func later(t *testing.T, tree api.Tree, steps int) api.Tree {
	t.Helper()
	for range steps {
		tree, _ = step(t, tree, api.Batch{})
	}
	return tree
}

// small is the chapter's T.
func small(t *testing.T) api.Tree {
	t.Helper()
	tree, _ := step(t, keytree.Start(), api.Batch{Joins: []int{1, 2, 3}})
	return tree
}

func stands(t *testing.T, tree api.Tree, who int) api.Member {
	t.Helper()
	m, e := keytree.Stand(tree, who)
	if e != api.OK {
		t.Fatalf("%d doesn't stand: %d", who, e)
	}
	return m
}

// carded is who has just its card of this tree.
func carded(t *testing.T, tree api.Tree, who int) api.Member {
	t.Helper()
	c, e := keytree.Card(tree, who)
	if e != api.OK {
		t.Fatalf("%d has no card: %d", who, e)
	}
	m, e := member.Seated(c)
	if e != api.OK {
		t.Fatalf("%d isn't seated: %d", who, e)
	}
	return m
}

// P16.1: Needs of each of the four kinds, with Behind 0 and above, and of states that look like another kind's.
func TestNeeds(t *testing.T) {
	for _, m := range []api.Member{fresh(), behind(fresh(), 8), behind(fresh(), 200), behind(plain(), 8), behind(plain(), 200), waiting(0, 0, 1, k(1, 0)), waiting(255, 63, 200, k(65535, 255))} {
		wantNeeds(t, m, true)
	}
	noPath, halfPath := plain(), fresh()
	noPath.Has = false
	halfPath.Path[1] = k(1, 0)
	badPath := behind(plain(), 8)
	badPath.Path[2] = k(1, 256)
	for _, m := range []api.Member{
		{}, plain(), out(0, 1), out(9, 7), out(255, 200), behind(out(9, 7), 8), {Behind: 3}, {Has: true, Behind: 3}, noPath, halfPath, badPath, behind(noPath, 8),
		behind(plain(), 7), behind(plain(), 6), behind(plain(), 1), behind(plain(), -1), behind(plain(), 201), behind(fresh(), 7), behind(fresh(), -1), behind(fresh(), 201),
		waiting(256, 0, 1, k(1, 0)), waiting(-1, 0, 1, k(1, 0)), waiting(0, 64, 1, k(1, 0)), waiting(0, -1, 1, k(1, 0)), waiting(0, 0, 0, k(1, 0)), waiting(0, 0, 201, k(1, 0)), waiting(0, 0, 1, k(0, 0)), waiting(0, 0, 1, k(65536, 0)), waiting(0, 0, 1, k(1, -1)), waiting(0, 0, 1, k(1, 256)),
	} {
		wantNeeds(t, m, false)
	}
}

// P16.1: Ask of each kind, also of one that lags in nothing; who may not ask is told why.
func TestAsk(t *testing.T) {
	for _, m := range []api.Member{plain(), fresh(), behind(plain(), 8), behind(fresh(), 200)} {
		wantAsk(t, m, ask(9, 7), api.OK)
	}
	wantAsk(t, waiting(0, 63, 1, k(1, 0)), ask(0, 1), api.OK)
	wantAsk(t, waiting(255, 0, 200, k(1, 255)), ask(255, 200), api.OK)
	for _, m := range []api.Member{out(0, 1), out(9, 7), out(255, 200)} {
		wantAsk(t, m, api.Request{}, api.ErrOut)
	}
	for _, m := range []api.Member{
		{}, {Who: 9}, {Epoch: 7}, {Out: true}, out(256, 7), out(-1, 7), out(9, 0), out(9, 201), behind(out(9, 7), 8),
		behind(plain(), 7), behind(fresh(), 201), waiting(256, 0, 1, k(1, 0)), waiting(0, 64, 1, k(1, 0)), waiting(0, 0, 0, k(1, 0)), waiting(0, 0, 201, k(1, 0)), waiting(0, 0, 1, k(0, 0)),
	} {
		wantAsk(t, m, api.Request{}, api.ErrCard)
	}
}

// P16.1, P16.2: states around every bound, with any one number another one; of one that isn't right nothing is taken.
func TestStatesAround(t *testing.T) {
	kinds := map[int]int{}
	for _, m := range append(rightStates(), otherStates()...) {
		wantNeeds(t, m, modelNeeds(m))
		q, status := modelAsk(m)
		wantAsk(t, m, q, status)
		wantAsModel(t, m, replyAt(8))
		wantAsModel(t, m, underOne(m.Who, m.Slot, 200, k(m.Leaf.Base, 255), k(1, 0), k(2, 0), k(3, 0)))
		wantAsModel(t, m, api.Reply{})
		kinds[modelKind(m)]++
	}
	for kind := -1; kind <= 3; kind++ {
		if kinds[kind] < 10 {
			t.Errorf("the kind %d comes only %d times", kind, kinds[kind])
		}
	}
}

// P16.1: every Behind at every epoch, with a path and without.
func TestBehindAtEveryEpoch(t *testing.T) {
	for epoch := range 203 {
		for seen := -2; seen < 204; seen++ {
			right := within(epoch, 1, 200) && (seen == 0 || within(seen, epoch+1, 200))
			m := behind(waiting(3, 4, epoch, k(5, 6)), seen)
			wantNeeds(t, m, right)
			m.Has, m.Path = true, api.Path{k(1, 0), k(2, 0), k(3, 0)}
			wantNeeds(t, m, right && seen != 0)
			if right {
				wantAsk(t, m, ask(3, epoch), api.OK)
			} else {
				wantAsk(t, m, api.Request{}, api.ErrCard)
			}
		}
	}
}

// P16.1: the chapter's example 1.
func TestAskExample(t *testing.T) {
	m := stands(t, small(t), 2)
	wantNeeds(t, m, false)
	wantNeeds(t, behind(m, 3), true)
	wantAsk(t, m, ask(2, 1), api.OK)
}

// P16.2: the chapter's example 2.
func TestAnswerExample(t *testing.T) {
	u := later(t, small(t), 2)
	wantAnswer(t, u, ask(2, 1), underOne(2, 1, 3, k(23, 2), k(6, 3), k(2, 3), k(1, 3)), api.OK)
	wantNoAnswer(t, u, ask(4, 1), api.ErrNotOn)
	wantNoAnswer(t, u, ask(256, 1), api.ErrWho)
	wantNoAnswer(t, u, ask(2, 4), api.ErrAhead)
	wantNoAnswer(t, u, ask(2, 0), api.ErrAhead)
}

// P16.2, P16.4: the chapter's example 3.
func TestTakeExample(t *testing.T) {
	first := small(t)
	u := later(t, first, 2)
	m := stands(t, first, 2)
	p := wantAnswer(t, u, ask(2, 1), underOne(2, 1, 3, k(23, 2), k(6, 3), k(2, 3), k(1, 3)), api.OK)
	n := wantTake(t, m, p, stands(t, u, 2), api.OK)
	wantRefused(t, n, p, api.ErrOld)
	wantRefused(t, stands(t, first, 1), p, api.ErrMine)
	m.Leaf = k(24, 0)
	wantRefused(t, m, p, api.ErrOpen)
}

// changed is the tree with something written on it.
func changed(tree api.Tree, write func(*api.Tree)) api.Tree {
	write(&tree)
	return tree
}

// wrongTrees are all near the chapter's U, which is of the epoch 3, with 1, 2 and 3 at the slots 0, 1 and 2.
func wrongTrees(t *testing.T) []api.Tree {
	t.Helper()
	u := later(t, small(t), 2)
	list := []api.Tree{
		{}, {Epoch: 3, Fresh: 25}, {Epoch: 3, Fresh: 25, Roster: u.Roster}, {Epoch: 3, Fresh: 25, Roster: u.Roster, Keys: api.Keys{0: k(1, 1), 1: k(2, 1), 5: k(6, 1)}},
		changed(u, func(x *api.Tree) { x.Fresh = 24 }), changed(u, func(x *api.Tree) { x.Fresh = 32769 }), changed(u, func(x *api.Tree) { x.Epoch = 2 }), changed(u, func(x *api.Tree) { x.Epoch = 201 }), changed(u, func(x *api.Tree) { x.Epoch = -1 }),
		changed(u, func(x *api.Tree) { x.Keys[20] = k(0, 0) }), changed(u, func(x *api.Tree) { x.Keys[20].Base = 20 }), changed(u, func(x *api.Tree) { x.Keys[20].Base = 24 }), changed(u, func(x *api.Tree) { x.Keys[0].Step = 4 }), changed(u, func(x *api.Tree) { x.Keys[7].Step = -1 }),
		changed(u, func(x *api.Tree) { x.Roster[0].Who = 2 }), changed(u, func(x *api.Tree) { x.Roster[0].Base = 23 }), changed(u, func(x *api.Tree) { x.Roster[0].Since = 4 }), changed(u, func(x *api.Tree) { x.Roster[0].Since = 0 }), changed(u, func(x *api.Tree) { x.Roster[0].Who = 256 }),
		changed(u, func(x *api.Tree) { x.Roster[63] = api.Entry{Who: 5} }), changed(u, func(x *api.Tree) { x.Roster[63] = api.Entry{Who: 2, Base: 0, Since: 1} }),
	}
	for _, n := range farNumbers() {
		list = append(list, changed(u, func(x *api.Tree) { x.Epoch = n }), changed(u, func(x *api.Tree) { x.Fresh = n }), changed(u, func(x *api.Tree) { x.Keys[3].Base = n }), changed(u, func(x *api.Tree) { x.Keys[3].Step = n }),
			changed(u, func(x *api.Tree) { x.Roster[1].Who = n }), changed(u, func(x *api.Tree) { x.Roster[1].Base = n }), changed(u, func(x *api.Tree) { x.Roster[1].Since = n }))
	}
	return list
}

// P16.2: of a tree that isn't right nothing is answered, whoever asks: that is told first.
func TestWrongTrees(t *testing.T) {
	for _, tree := range wrongTrees(t) {
		for _, q := range []api.Request{{}, ask(2, 1), ask(1, 3), ask(3, 0), ask(2, 4), ask(4, 1), ask(256, 1), ask(-1, 201), ask(math.MinInt, math.MaxInt)} {
			wantNoAnswer(t, tree, q, api.ErrTree)
		}
	}
}

// P16.2: who isn't anybody is told so ahead of who isn't on, and that ahead of an epoch that can't be.
func TestAnswerFirst(t *testing.T) {
	u := later(t, small(t), 2)
	for _, who := range append(farNumbers(), 256, 257) {
		for _, epoch := range edgeNumbers() {
			wantNoAnswer(t, u, ask(who, epoch), api.ErrWho)
			wantNoAnswer(t, keytree.Start(), ask(who, epoch), api.ErrWho)
		}
	}
	for _, who := range []int{0, 4, 22, 23, 254, 255} {
		for _, epoch := range edgeNumbers() {
			wantNoAnswer(t, u, ask(who, epoch), api.ErrNotOn)
			// At the epoch 0 nobody is on.
			wantNoAnswer(t, keytree.Start(), ask(who, epoch), api.ErrNotOn)
		}
	}
	for _, who := range []int{1, 2, 3} {
		for _, epoch := range edgeNumbers() {
			if !within(epoch, 1, 3) {
				wantNoAnswer(t, u, ask(who, epoch), api.ErrAhead)
			}
		}
	}
}

// P16.2: the epochs that may be asked with, at every epoch of the tree; the reply hangs on none of them. Somebody who joined later may ask with an epoch ahead of that.
func TestAskedEpochs(t *testing.T) {
	tree, _ := step(t, later(t, small(t), 4), api.Batch{Leaves: []int{2}, Joins: []int{200, 11}})
	for tree.Epoch < 200 {
		for _, who := range []int{1, 3, 11, 200} {
			want, _ := modelAnswer(tree, ask(who, tree.Epoch))
			for _, epoch := range []int{1, 2, 5, 6, tree.Epoch - 1, tree.Epoch} {
				wantAnswer(t, tree, ask(who, epoch), want, api.OK)
			}
			for _, epoch := range []int{0, -1, tree.Epoch + 1, tree.Epoch + 2, 201, 256 + 1, math.MaxInt, math.MinInt} {
				wantNoAnswer(t, tree, ask(who, epoch), api.ErrAhead)
			}
		}
		wantNoAnswer(t, tree, ask(2, 5), api.ErrNotOn)
		tree = later(t, tree, 1)
	}
	wantAnswer(t, tree, ask(1, 200), underOne(1, 0, 200, k(22, 199), tree.Keys[5], tree.Keys[1], tree.Keys[0]), api.OK)
	wantNoAnswer(t, tree, ask(1, 201), api.ErrAhead)
}

// P16.2: what a reply holds, at every slot of a full tree: who, slot, epoch, and the path's keys under the leaf key.
func TestEverySlot(t *testing.T) {
	var people []int
	for slot := range 64 {
		people = append(people, 255-slot)
	}
	tree, _ := step(t, keytree.Start(), api.Batch{Joins: people})
	tree = later(t, tree, 3)
	for slot, who := range people {
		low := (21 + slot - 1) / 4
		want := underOne(who, slot, 4, k(22+slot, 3), k(low+1, 4), k((low-1)/4+1, 4), k(1, 4))
		p := wantAnswer(t, tree, ask(who, 2), want, api.OK)
		m := waiting(who, slot, 1, k(22+slot, 0))
		wantTake(t, m, p, stands(t, tree, who), api.OK)
		for other := range 64 {
			if other != slot {
				wantRefused(t, waiting(who, other, 1, k(22+slot, 0)), p, api.ErrMine)
				wantRefused(t, waiting(255-other, slot, 1, k(22+slot, 0)), p, api.ErrMine)
			}
		}
	}
}

// fault is something that is wrong with a state or a reply, and what is told of it.
type fault struct {
	status api.Errno
	write  func(*api.Member, *api.Reply)
}

// faults stand in the chapter's order.
func faults() []fault {
	return []fault{
		{api.ErrCard, func(m *api.Member, _ *api.Reply) { m.Behind = -1 }},
		{api.ErrCard, func(m *api.Member, _ *api.Reply) { *m = api.Member{} }},
		{api.ErrOut, func(m *api.Member, _ *api.Reply) { *m = out(9, 7) }},
		{api.ErrWire, func(_ *api.Member, p *api.Reply) { p.Path[0].Load.Base = 65536 }},
		{api.ErrWire, func(_ *api.Member, p *api.Reply) { p.Path[2].Load = k(0, 0) }},
		{api.ErrWire, func(_ *api.Member, p *api.Reply) { p.Path[1].Load.Step = 256 }},
		{api.ErrMine, func(_ *api.Member, p *api.Reply) { p.Who = 8 }},
		{api.ErrMine, func(_ *api.Member, p *api.Reply) { p.Slot = 36 }},
		{api.ErrOld, func(_ *api.Member, p *api.Reply) { p.Epoch = 6 }},
		{api.ErrOld, func(m *api.Member, p *api.Reply) { p.Epoch = min(p.Epoch, m.Epoch) }},
		{api.ErrStep, func(m *api.Member, _ *api.Reply) { m.Leaf.Step = 254 }},
		{api.ErrOpen, func(_ *api.Member, p *api.Reply) { p.Path[0].Under.Base = 51 }},
		{api.ErrOpen, func(_ *api.Member, p *api.Reply) { p.Path[1].Under.Step = 5 }},
		{api.ErrOpen, func(_ *api.Member, p *api.Reply) { p.Path[2].Under = k(60, 2) }},
	}
}

// P16.2: each of Take's errors, and of every choice among the faults the first one is told; the state is as it was.
func TestTakeFirst(t *testing.T) {
	list := faults()
	for chosen := range 1 << len(list) {
		m, p := plain(), replyAt(9)
		want := api.OK
		// From the last one on, so that the one that is told is written last.
		for i := len(list) - 1; i >= 0; i-- {
			if chosen>>i&1 == 1 {
				list[i].write(&m, &p)
				want = list[i].status
			}
		}
		if want != api.OK {
			wantRefused(t, m, p, want)
			continue
		}
		wantTake(t, m, p, standing(9, 37, 9, k(50, 6), k(70, 1), k(71, 2), k(72, 3)), api.OK)
	}
}

// P16.2: replies with any one number another one, for those whose own it is and for others.
func TestRepliesAround(t *testing.T) {
	seen := map[api.Errno]int{}
	right := []api.Reply{replyAt(7), replyAt(8), replyAt(200), underOne(0, 0, 1, k(1, 0), k(1, 0), k(1, 0), k(1, 0)), underOne(255, 63, 200, k(65535, 255), k(65535, 255), k(65535, 255), k(65535, 255))}
	for _, p := range right {
		for i := range numbersIn(&p) {
			for _, n := range edgeNumbers() {
				one := p
				*numbersIn(&one)[i] = n
				for _, m := range rightStates() {
					seen[wantAsModel(t, m, one)]++
				}
			}
		}
	}
	for _, e := range []api.Errno{api.OK, api.ErrCard, api.ErrOut, api.ErrWire, api.ErrMine, api.ErrOld, api.ErrOpen} {
		if seen[e] < 20 {
			t.Errorf("%d is answered only %d times", e, seen[e])
		}
	}
}

// P16.2: a reply that isn't right is told so whatever its epoch, its seat and its boxes would be told.
func TestWrongReplies(t *testing.T) {
	for _, p := range []api.Reply{
		{}, {Who: 9, Slot: 37, Epoch: 8}, {Who: 9, Slot: 37, Epoch: 6}, replyAt(201), replyAt(0), replyAt(-1),
		underOne(256, 37, 8, k(50, 5), k(70, 1), k(71, 2), k(72, 3)), underOne(-1, 37, 8, k(50, 5), k(70, 1), k(71, 2), k(72, 3)), underOne(9, 64, 8, k(50, 5), k(70, 1), k(71, 2), k(72, 3)), underOne(9, -1, 8, k(50, 5), k(70, 1), k(71, 2), k(72, 3)),
		underOne(9, 37, 8, k(50, 256), k(70, 1), k(71, 2), k(72, 3)), underOne(9, 37, 8, k(0, 5), k(70, 1), k(71, 2), k(72, 3)), underOne(9, 37, 8, k(50, 5), k(0, 0), k(71, 2), k(72, 3)), underOne(9, 37, 8, k(50, 5), k(70, 1), k(65536, 2), k(72, 3)), underOne(9, 37, 8, k(50, 5), k(70, 1), k(71, 2), k(72, -1)),
		underOne(8, 36, 6, k(51, 5), k(70, 1), k(71, 2), k(72, 256)),
	} {
		for _, m := range []api.Member{plain(), fresh(), behind(plain(), 9), waiting(9, 37, 1, k(50, 255))} {
			wantRefused(t, m, p, api.ErrWire)
		}
		wantRefused(t, api.Member{}, p, api.ErrCard)
		wantRefused(t, out(9, 7), p, api.ErrOut)
	}
}

// P16.2: every epoch of a reply: with a path the own one is old, without it isn't.
func TestTakeEpochs(t *testing.T) {
	for epoch := 1; epoch <= 200; epoch++ {
		p := underOne(9, 37, epoch, k(50, 255), k(70, 1), k(71, 2), k(72, 3))
		want := standing(9, 37, epoch, k(50, epoch-3), k(70, 1), k(71, 2), k(72, 3))
		for _, m := range []api.Member{plain(), fresh()} {
			if epoch < 7 || epoch == 7 && m.Has {
				wantRefused(t, m, p, api.ErrOld)
				continue
			}
			wantTake(t, m, p, want, api.OK)
		}
	}
}

// P16.2: who and slot are both asked, each by itself; those of the keys and the epoch that would fit don't help.
func TestTakeMine(t *testing.T) {
	for _, m := range []api.Member{plain(), fresh()} {
		for _, epoch := range []int{6, 7, 8, 200} {
			p := replyAt(epoch)
			p.Who = 10
			wantRefused(t, m, p, api.ErrMine)
			p = replyAt(epoch)
			p.Slot = 0
			wantRefused(t, m, p, api.ErrMine)
			p.Who, p.Slot = 37, 9
			wantRefused(t, m, p, api.ErrMine)
		}
	}
}

// P16.2: how far the leaf key can be advanced: to the last step and no further, over every number of epochs.
func TestTakeSteps(t *testing.T) {
	for held := range 256 {
		for _, ahead := range []int{0, 1, 2, 55, 100, 198, 199} {
			p := underOne(9, 37, 1+ahead, k(50, 255), k(70, 255), k(71, 0), k(72, 3))
			m := waiting(9, 37, 1, k(50, held))
			if held+ahead > 255 {
				wantRefused(t, m, p, api.ErrStep)
				p.Path[0].Under.Base = 51
				wantRefused(t, m, p, api.ErrStep)
				continue
			}
			wantTake(t, m, p, standing(9, 37, 1+ahead, k(50, held+ahead), k(70, 255), k(71, 0), k(72, 3)), api.OK)
		}
	}
	// The path's own keys aren't advanced, so that they may be at the last step.
	m := standing(9, 37, 7, k(50, 4), k(60, 255), k(61, 255), k(62, 255))
	wantTake(t, m, replyAt(200), standing(9, 37, 200, k(50, 197), k(70, 1), k(71, 2), k(72, 3)), api.OK)
}

// P16.2: each of the three boxes is opened by the leaf key of the reply's epoch: what is under that one or a later step of it, nothing else.
func TestTakeOpens(t *testing.T) {
	for place := range 3 {
		for under := range 256 {
			p := replyAt(12)
			p.Path[place].Under.Step = under
			for _, m := range []api.Member{plain(), fresh()} {
				if under < 9 {
					wantRefused(t, m, p, api.ErrOpen)
					continue
				}
				wantTake(t, m, p, standing(9, 37, 12, k(50, 9), k(70, 1), k(71, 2), k(72, 3)), api.OK)
			}
		}
		// No other key that the device holds opens one, nor what the box before it gave.
		for _, under := range []api.Key{k(49, 9), k(51, 9), k(60, 2), k(60, 255), k(61, 3), k(62, 0), k(62, 255), k(70, 1), k(71, 2), k(65535, 255)} {
			p := replyAt(12)
			p.Path[place].Under = under
			wantRefused(t, plain(), p, api.ErrOpen)
			wantRefused(t, fresh(), p, api.ErrOpen)
		}
	}
	// Each box stands for itself.
	p := reply(9, 37, 12, [3]api.Key{k(50, 200), k(50, 9), k(50, 30)}, [3]api.Key{k(50, 9), k(1, 0), k(1, 0)})
	wantTake(t, plain(), p, standing(9, 37, 12, k(50, 9), k(50, 9), k(1, 0), k(1, 0)), api.OK)
}

// P16.2: Behind becomes 0 where it isn't above the epoch any more, and stays where it is; beside an error it stays.
func TestTakeBehind(t *testing.T) {
	for seen := 8; seen <= 200; seen++ {
		for epoch := 7; epoch <= 200; epoch++ {
			left := 0
			if seen > epoch {
				left = seen
			}
			want := behind(standing(9, 37, epoch, k(50, epoch-3), k(70, 1), k(71, 2), k(72, 3)), left)
			got := wantTake(t, behind(fresh(), seen), replyAt(epoch), want, api.OK)
			wantNeeds(t, got, left != 0)
			if epoch > 7 {
				wantTake(t, behind(plain(), seen), replyAt(epoch), want, api.OK)
			}
		}
		m := behind(plain(), seen)
		wantRefused(t, m, replyAt(7), api.ErrOld)
		wantRefused(t, m, replyAt(201), api.ErrWire)
		wantRefused(t, m, underOne(9, 37, 200, k(50, 9), k(70, 1), k(71, 2), k(72, 3)), api.ErrOpen)
	}
}

// row is a server's trees from the epoch 0 on, and the message that leads to each (of the first one none).
type row struct {
	trees    []api.Tree
	messages []api.Rekey
}

// chanceBatch fits the tree: so many leave and join of a hundred, as far as there are seats; who leaves may come again later.
func chanceBatch(chance *rand.Rand, tree api.Tree, leaves, joins int) api.Batch {
	var b api.Batch
	on, free := map[int]int{}, 0
	for _, entry := range tree.Roster {
		if entry.Base == 0 {
			free++
			continue
		}
		on[entry.Who] = 1
		if chance.Intn(100) < leaves {
			b.Leaves = append(b.Leaves, entry.Who)
			free++
		}
	}
	for _, who := range chance.Perm(256) {
		if on[who] == 0 && len(b.Joins) < free && chance.Intn(100) < joins {
			b.Joins = append(b.Joins, who)
		}
	}
	return b
}

// chanceRow has steps with nobody, with few and with many.
func chanceRow(t *testing.T, seed int64, steps int) row {
	t.Helper()
	chance := rand.New(rand.NewSource(seed))
	one := row{trees: []api.Tree{keytree.Start()}, messages: []api.Rekey{{}}}
	shares := []int{0, 0, 0, 1, 3, 10, 40}
	for range steps {
		tree := one.trees[len(one.trees)-1]
		next, r := step(t, tree, chanceBatch(chance, tree, shares[chance.Intn(7)], shares[chance.Intn(6)]))
		one.trees, one.messages = append(one.trees, next), append(one.messages, r)
	}
	return one
}

// rowOf has just these steps.
func rowOf(t *testing.T, batches ...api.Batch) row {
	t.Helper()
	one := row{trees: []api.Tree{keytree.Start()}, messages: []api.Rekey{{}}}
	for _, b := range batches {
		next, r := step(t, one.trees[len(one.trees)-1], b)
		one.trees, one.messages = append(one.trees, next), append(one.messages, r)
	}
	return one
}

// entries are who is on, with its entry.
func entries(tree api.Tree) map[int]api.Entry {
	on := map[int]api.Entry{}
	for _, entry := range tree.Roster {
		if entry.Base != 0 {
			on[entry.Who] = entry
		}
	}
	return on
}

// overWire is the message behind its way as bytes.
func overWire(t *testing.T, m api.Message) api.Message {
	t.Helper()
	text, e := wire.Encode(m)
	if e != api.OK {
		t.Fatalf("Encode(%+v) = %d", m, e)
	}
	back, e := wire.Decode(text)
	if e != api.OK {
		t.Fatalf("Decode(%+v's bytes) = %d", m, e)
	}
	return back
}

// answered is the reply that a device's request gets at the tree, both gone over the wire.
func answered(t *testing.T, tree api.Tree, m api.Member) api.Reply {
	t.Helper()
	q, e := recovery.Ask(m)
	if e != api.OK {
		t.Fatalf("Ask(%+v) = %d", m, e)
	}
	q = overWire(t, api.Message{Kind: api.KindRequest, Request: q}).Request
	want, status := modelAnswer(tree, q)
	p := wantAnswer(t, tree, q, want, status)
	if status != api.OK {
		t.Fatalf("%+v isn't answered at the epoch %d: %d", m, tree.Epoch, status)
	}
	return overWire(t, api.Message{Kind: api.KindReply, Reply: p}).Reply
}

// wantBrought: P16.3: one request and its reply bring the device to stand at the tree, with what is left of its Behind; P16.4: the reply isn't taken again.
func wantBrought(t *testing.T, tree api.Tree, m api.Member) {
	t.Helper()
	p := answered(t, tree, m)
	if m.Has && m.Epoch == tree.Epoch {
		wantRefused(t, m, p, api.ErrOld)
		return
	}
	want := stands(t, tree, m.Who)
	if m.Behind > tree.Epoch {
		want.Behind = m.Behind
	}
	got := wantTake(t, m, p, want, api.OK)
	wantRefused(t, got, p, api.ErrOld)
	wantNeeds(t, got, want.Behind != 0)
	group, _ := keytree.Group(tree)
	if held, e := member.Group(got); e != api.OK || held != group {
		t.Fatalf("%d has the group key %v, %d; the server has %v", m.Who, held, e, group)
	}
}

// P16.3, P16.4: rows of steps with leavers and joiners: from every tree to every later one, for each who kept its entry, standing at the first one or with just its card.
func TestRows(t *testing.T) {
	brought := 0
	for seed := range int64(4) {
		one := chanceRow(t, 160+seed, 24)
		for i, first := range one.trees {
			for _, last := range one.trees[i:] {
				now := entries(last)
				for who, entry := range entries(first) {
					if now[who] != entry {
						continue
					}
					m := stands(t, first, who)
					wantBrought(t, last, m)
					wantBrought(t, last, carded(t, first, who))
					if last.Epoch > first.Epoch {
						wantBrought(t, last, behind(m, last.Epoch))
						wantBrought(t, last, behind(carded(t, first, who), last.Epoch+1))
						wantBrought(t, last, behind(m, 200))
					}
					brought++
				}
			}
		}
	}
	if brought < 2000 {
		t.Errorf("only %d are brought on", brought)
	}
}

// P16.3: over as many steps as there are: from the first epoch to the last one, with others who come and go all the while.
func TestFarthest(t *testing.T) {
	tree, _ := step(t, keytree.Start(), api.Batch{Joins: []int{0, 100, 255}})
	first := tree
	second := false
	for tree.Epoch < 200 {
		b := api.Batch{Joins: []int{7}}
		if second {
			b = api.Batch{Leaves: []int{7}}
		}
		tree, _ = step(t, tree, b)
		second = !second
		for _, who := range []int{0, 100, 255} {
			wantBrought(t, tree, stands(t, first, who))
			wantBrought(t, tree, carded(t, first, who))
		}
	}
	if m, e := recovery.Take(stands(t, first, 255), answered(t, tree, stands(t, first, 255))); e != api.OK || m.Leaf != k(24, 199) || m.Epoch != 200 {
		t.Errorf("at the end: %+v, %d", m, e)
	}
}

// P16.4: a reply isn't for the other leaf keys: those of others at the same seat, and the own ones of an earlier admission.
func TestOtherLeafKey(t *testing.T) {
	one := rowOf(t, api.Batch{Joins: []int{1, 2}}, api.Batch{}, api.Batch{Leaves: []int{2}}, api.Batch{Joins: []int{2}}, api.Batch{}, api.Batch{Leaves: []int{1}, Joins: []int{9}})
	last := one.trees[6]
	if entries(one.trees[1])[2] == entries(last)[2] || last.Roster[1].Who != 2 || one.trees[1].Roster[1].Who != 2 {
		t.Fatal("2 should have come back to its seat")
	}
	p := answered(t, last, carded(t, one.trees[4], 2))
	for _, early := range one.trees[1:3] {
		wantRefused(t, stands(t, early, 2), p, api.ErrOpen)
		wantRefused(t, carded(t, early, 2), p, api.ErrOpen)
	}
	wantTake(t, stands(t, one.trees[4], 2), p, stands(t, last, 2), api.OK)
	wantTake(t, carded(t, one.trees[6], 2), p, stands(t, last, 2), api.OK)
	// Who sat there before isn't who asks.
	p = answered(t, last, carded(t, last, 9))
	wantRefused(t, stands(t, one.trees[5], 1), p, api.ErrMine)
	wantTake(t, carded(t, last, 9), p, stands(t, last, 9), api.OK)
}

// P16.4: over rows: no leaf key of another name takes a reply, whoever and wherever its device says to be; nor does a later one of the own name.
func TestAnotherNameTakesNothing(t *testing.T) {
	one := chanceRow(t, 164, 20)
	tried := 0
	for i, tree := range one.trees {
		for who, entry := range entries(tree) {
			m := carded(t, tree, who)
			p := answered(t, tree, m)
			for _, early := range one.trees[:i+1] {
				for _, other := range entries(early) {
					if other.Base == entry.Base {
						continue
					}
					m.Epoch, m.Leaf = early.Epoch, k(other.Base, early.Epoch-other.Since)
					wantRefused(t, m, p, api.ErrOpen)
					tried++
				}
			}
			m.Epoch, m.Leaf = tree.Epoch, k(entry.Base, tree.Epoch-entry.Since+1)
			wantRefused(t, m, p, api.ErrOpen)
		}
	}
	if tried < 5000 {
		t.Errorf("only %d tried", tried)
	}
}

// P16.4: where each box's Under is given by another key, that key takes it, as the chapter excepts.
func TestUnderAnother(t *testing.T) {
	p := underOne(9, 37, 8, k(50, 5), k(70, 1), k(71, 2), k(72, 3))
	m := waiting(9, 37, 7, k(33, 0))
	wantRefused(t, m, p, api.ErrOpen)
	for place := range p.Path {
		wantRefused(t, m, p, api.ErrOpen)
		p.Path[place].Under = k(33, 1)
	}
	wantTake(t, m, p, standing(9, 37, 8, k(33, 1), k(70, 1), k(71, 2), k(72, 3)), api.OK)
}

// known has of each name the least step that somebody has.
type known map[int]int

func (n known) has(x api.Key) bool {
	least, ok := n[x.Base]
	return ok && least <= x.Step
}

func (n known) add(x api.Key) bool {
	if n.has(x) {
		return false
	}
	n[x.Base] = x.Step
	return true
}

// derived is all that comes of the keys and the boxes.
func derived(keys []api.Key, boxes []api.Box) known {
	n := known{}
	for _, x := range keys {
		n.add(x)
	}
	for more := true; more; {
		more = false
		for _, box := range boxes {
			if n.has(box.Under) && n.add(box.Load) {
				more = true
			}
		}
	}
	return n
}

// keysOf are all that nodes have: of the inner ones, and of the leaves whose seats are taken.
func keysOf(tree api.Tree) []api.Key {
	list := slices.Clone(tree.Keys[:])
	for _, entry := range tree.Roster {
		if entry.Base != 0 {
			list = append(list, k(entry.Base, tree.Epoch-entry.Since))
		}
	}
	return list
}

// P16.5: the keys that a reply gives, to the leaf key of whatever epoch was asked with, give no key of an earlier tree; a leaf key of a later epoch than the reply's opens none.
func TestNothingOlder(t *testing.T) {
	looked := 0
	for seed := range int64(3) {
		one := chanceRow(t, 165+seed, 25)
		for i, tree := range one.trees {
			for who, entry := range entries(tree) {
				for asked := entry.Since; asked <= i; asked++ {
					m := carded(t, one.trees[asked], who)
					p := answered(t, tree, m)
					wantNothingOlder(t, one.trees[:i], m.Leaf, p)
					looked++
				}
				p := answered(t, tree, carded(t, tree, who))
				for place, box := range p.Path {
					if load, e := key.Open(box, k(entry.Base, i-entry.Since+1)); e != api.ErrOpen {
						t.Fatalf("a later leaf key opens the box %d: %v", place, load)
					}
				}
			}
		}
	}
	if looked < 2000 {
		t.Errorf("only %d looked at", looked)
	}
}

// wantNothingOlder: of what the boxes give to who has this leaf key, nothing gives a key of these earlier trees.
func wantNothingOlder(t *testing.T, earlier []api.Tree, leaf api.Key, p api.Reply) {
	t.Helper()
	given := known{}
	for _, box := range p.Path {
		load, e := key.Open(box, leaf)
		if e != api.OK {
			t.Fatalf("%v doesn't open %v: %d", leaf, box, e)
		}
		given.add(load)
	}
	for _, tree := range earlier {
		for _, x := range keysOf(tree) {
			if given.has(x) {
				t.Fatalf("the reply %+v gives %v of the epoch %d", p, x, tree.Epoch)
			}
		}
	}
}

// traffic is all that the row's server sends, if at each epoch everybody who is on asks: the boxes of its messages and of its replies.
func traffic(t *testing.T, one row) []api.Box {
	t.Helper()
	var all []api.Box
	for i, tree := range one.trees {
		all = append(all, wire.Boxes(api.Message{Kind: api.KindRekey, Rekey: one.messages[i]})...)
		for who := range entries(tree) {
			all = append(all, wire.Boxes(api.Message{Kind: api.KindReply, Reply: answered(t, tree, carded(t, tree, who))})...)
		}
	}
	return all
}

// stayed: was the person on in every epoch from one to another, and is the node on its path all the while?
func stayed(trees []api.Tree, open api.Reveal, epoch, v int) bool {
	for e := open.Epoch; e <= epoch; e++ {
		slot := slices.IndexFunc(trees[e].Roster[:], func(entry api.Entry) bool { return entry.Base != 0 && entry.Who == open.Who })
		if nodes := nodesAbove(slot); slot < 0 || !slices.Contains(nodes[:], v) {
			return false
		}
	}
	return open.Epoch <= epoch
}

func heldBy(m api.Member) []api.Key {
	if !m.Has {
		return []api.Key{m.Leaf}
	}
	return append([]api.Key{m.Leaf}, m.Path[:]...)
}

// wantExposed: P4: with all that was sent and the opened devices' keys each node's key is had at just the epochs to which one of them stayed, on a path through it.
func wantExposed(t *testing.T, one row, sent []api.Box, opened []api.Member) {
	t.Helper()
	var keys []api.Key
	for _, m := range opened {
		keys = append(keys, heldBy(m)...)
	}
	n := derived(keys, sent)
	for epoch, tree := range one.trees {
		for v := range api.Inner {
			want := slices.ContainsFunc(opened, func(m api.Member) bool {
				return stayed(one.trees, api.Reveal{Who: m.Who, Epoch: m.Epoch}, epoch, v)
			})
			if n.has(tree.Keys[v]) != want {
				t.Fatalf("opened %+v: node %d at the epoch %d: had %v", opened, v, epoch, !want)
			}
		}
	}
}

// P4: all messages, and replies for everybody at every epoch, give nothing by themselves; a device that is opened, with its path or with just its leaf key, gives what its person had from then on till it left.
func TestSecrecy(t *testing.T) {
	chance := rand.New(rand.NewSource(168))
	count := 0
	for seed := range int64(6) {
		one := chanceRow(t, 170+seed, 20)
		sent := traffic(t, one)
		wantExposed(t, one, sent, nil)
		for range 15 {
			var opened []api.Member
			for range 1 + chance.Intn(3) {
				tree := one.trees[1+chance.Intn(20)]
				for who := range 256 {
					if entries(tree)[who].Base == 0 || chance.Intn(12) > 0 {
						continue
					}
					m := stands(t, tree, who)
					if chance.Intn(2) == 0 {
						m = carded(t, tree, who)
					}
					opened = append(opened, m)
					break
				}
			}
			wantExposed(t, one, sent, opened)
			count += len(opened)
		}
	}
	if count < 40 {
		t.Errorf("only %d opened", count)
	}
}

// P6: devices that hear any of the messages, in any order, and ask now and then: whoever holds the card of its present admission is brought to the server's epoch by one request and its reply.
func TestRecovered(t *testing.T) {
	chance := rand.New(rand.NewSource(169))
	lagged, brought := 0, 0
	for seed := range int64(4) {
		one := chanceRow(t, 180+seed, 60)
		devices := map[int]api.Member{}
		for i := 1; i < len(one.trees); i++ {
			tree := one.trees[i]
			for who, entry := range entries(tree) {
				m := devices[who]
				if entry.Since == i {
					m = carded(t, tree, who)
				}
				for range chance.Intn(3) {
					m, _ = member.Apply(m, one.messages[max(1, i-chance.Intn(4))])
				}
				wantBrought(t, tree, m)
				if m.Epoch < i {
					lagged++
				}
				if recovery.Needs(m) && chance.Intn(4) == 0 {
					m, _ = recovery.Take(m, answered(t, tree, m))
					brought++
				}
				devices[who] = m
			}
		}
	}
	if lagged < 500 || brought < 200 {
		t.Errorf("only %d lagged, %d were brought on", lagged, brought)
	}
}

// P6, P16.3: behind a reply the next messages lead on, and a reply that was answered at an earlier tree is old.
func TestLedOnBehindReply(t *testing.T) {
	one := rowOf(t, api.Batch{Joins: []int{1, 2, 3}}, api.Batch{Leaves: []int{3}}, api.Batch{Joins: []int{7}}, api.Batch{Leaves: []int{7}}, api.Batch{Leaves: []int{1}})
	m := stands(t, one.trees[1], 2)
	early, late := answered(t, one.trees[3], m), answered(t, one.trees[4], m)
	gap, e := member.Apply(m, one.messages[5])
	if e != api.ErrGap || !recovery.Needs(gap) {
		t.Fatal(gap, e)
	}
	got := wantTake(t, gap, late, behind(stands(t, one.trees[4], 2), 5), api.OK)
	wantRefused(t, got, early, api.ErrOld)
	got, e = member.Apply(got, one.messages[5])
	if e != api.OK || got != stands(t, one.trees[5], 2) {
		t.Fatal(got, e)
	}
	wantRefused(t, got, late, api.ErrOld)
	// The earlier one first, then the later one.
	got = wantTake(t, m, early, stands(t, one.trees[3], 2), api.OK)
	wantTake(t, got, late, stands(t, one.trees[4], 2), api.OK)
	// Who left isn't answered, and who is out takes nothing.
	gone, _ := member.Apply(stands(t, one.trees[4], 1), one.messages[5])
	wantRefused(t, gone, answered(t, one.trees[4], stands(t, one.trees[1], 1)), api.ErrOut)
	wantNoAnswer(t, one.trees[5], ask(1, 4), api.ErrNotOn)
}

// chanceState is most often a right one near the ordinary numbers.
func chanceState(chance *rand.Rand, numbers []int) api.Member {
	few := func() api.Key { return k(1+chance.Intn(3), []int{0, 1, 2, 254, 255}[chance.Intn(5)]) }
	m := waiting(chance.Intn(3), chance.Intn(3), 1+chance.Intn(4), few())
	switch chance.Intn(12) {
	case 0:
		return out(chance.Intn(3), 1+chance.Intn(4))
	case 1, 2, 3, 4:
	default:
		m.Has, m.Path = true, api.Path{few(), few(), few()}
	}
	if chance.Intn(3) == 0 {
		m.Behind = m.Epoch + 1 + chance.Intn(3)
	}
	if chance.Intn(8) == 0 {
		*numbersOf(&m)[chance.Intn(12)] = numbers[chance.Intn(len(numbers))]
	}
	return m
}

// chanceReply is most often near what the state would take.
func chanceReply(chance *rand.Rand, m api.Member, numbers []int) api.Reply {
	under := func() api.Key { return k(m.Leaf.Base, min(255, m.Leaf.Step+chance.Intn(8))) }
	load := func() api.Key { return k(1+chance.Intn(65535), chance.Intn(256)) }
	p := reply(m.Who, m.Slot, 1+chance.Intn(7), [3]api.Key{under(), under(), under()}, [3]api.Key{load(), load(), load()})
	if chance.Intn(8) == 0 {
		p.Who, p.Slot = chance.Intn(3), chance.Intn(3)
	}
	if chance.Intn(8) == 0 {
		*numbersIn(&p)[chance.Intn(15)] = numbers[chance.Intn(len(numbers))]
	}
	return p
}

// P1, P16.1, P16.2: whatever is handed in is answered, and as the chapter says it.
func TestAnything(t *testing.T) {
	chance := rand.New(rand.NewSource(190))
	numbers := edgeNumbers()
	seen := map[api.Errno]int{}
	for range 300000 {
		m := chanceState(chance, numbers)
		wantNeeds(t, m, modelNeeds(m))
		q, status := modelAsk(m)
		wantAsk(t, m, q, status)
		seen[wantAsModel(t, m, chanceReply(chance, m, numbers))]++
	}
	for _, e := range []api.Errno{api.OK, api.ErrCard, api.ErrOut, api.ErrWire, api.ErrMine, api.ErrOld, api.ErrStep, api.ErrOpen} {
		if seen[e] < 1000 {
			t.Errorf("%d is answered only %d times", e, seen[e])
		}
	}
}

// P16.2: every request of ordinary numbers, at trees of a row.
func TestEveryRequest(t *testing.T) {
	seen := map[api.Errno]int{}
	for _, tree := range chanceRow(t, 191, 6).trees {
		for who := -2; who < 259; who++ {
			for _, epoch := range []int{-1, 0, 1, 2, 3, 4, 5, 6, 7, 200, 201} {
				want, status := modelAnswer(tree, ask(who, epoch))
				wantAnswer(t, tree, ask(who, epoch), want, status)
				seen[status]++
			}
		}
	}
	for _, e := range []api.Errno{api.OK, api.ErrWho, api.ErrNotOn, api.ErrAhead} {
		if seen[e] < 50 {
			t.Errorf("%d is answered only %d times", e, seen[e])
		}
	}
}

// P1: nothing but numbers far out.
func TestFarNumbers(t *testing.T) {
	for _, n := range farNumbers() {
		for _, o := range farNumbers() {
			m := api.Member{Who: n, Slot: o, Epoch: n, Leaf: k(o, n), Path: api.Path{k(n, o), k(o, n), k(n, n)}, Behind: o}
			p := underOne(n, o, n, k(o, n), k(n, o), k(o, o), k(n, n))
			for flags := range 4 {
				m.Has, m.Out = flags&1 == 1, flags&2 == 2
				wantNeeds(t, m, false)
				wantAsk(t, m, api.Request{}, api.ErrCard)
				wantRefused(t, m, p, api.ErrCard)
			}
			wantRefused(t, plain(), p, api.ErrWire)
			wantRefused(t, fresh(), p, api.ErrWire)
			tree := api.Tree{Epoch: n, Fresh: o}
			for v := range tree.Keys {
				tree.Keys[v] = k(n, o)
			}
			for slot := range tree.Roster {
				tree.Roster[slot] = api.Entry{Who: n, Base: o, Since: n}
			}
			wantNoAnswer(t, tree, ask(n, o), api.ErrTree)
		}
	}
}

// R6: an answer hangs on nothing that was asked before it, refused or not.
func TestNothingKept(t *testing.T) {
	u := later(t, small(t), 2)
	m := stands(t, small(t), 2)
	p := answered(t, u, m)
	trees := []api.Tree{{}, keytree.Start(), small(t), u}
	requests := []api.Request{{}, ask(2, 1), ask(1, 3), ask(4, 1), ask(256, 1)}
	states := []api.Member{{}, m, behind(m, 3), carded(t, u, 2), stands(t, u, 1), out(2, 3), {Who: -1}}
	replies := []api.Reply{{}, p, answered(t, u, stands(t, u, 1)), underOne(2, 1, 3, k(24, 2), k(6, 3), k(2, 3), k(1, 3))}
	for _, tree := range trees {
		for _, q := range requests {
			for _, first := range states {
				for _, before := range replies {
					recovery.Answer(tree, q)
					recovery.Ask(first)
					recovery.Needs(first)
					recovery.Take(first, before)
					wantAnswer(t, u, ask(2, 1), p, api.OK)
					wantNoAnswer(t, u, ask(2, 4), api.ErrAhead)
					wantNeeds(t, m, false)
					wantAsk(t, m, ask(2, 1), api.OK)
					for _, other := range states {
						wantAsModel(t, other, p)
					}
				}
			}
		}
	}
}
