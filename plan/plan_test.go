package plan_test

import (
	"math"
	"math/rand"
	"slices"
	"testing"

	"coterie/api"
	"coterie/key"
	"coterie/keytree"
	"coterie/plan"
	"coterie/roster"
)

const every = 1<<21 - 1

func k(base, step int) api.Key { return api.Key{Base: base, Step: step} }

// item gives the node's key load to who has the key under of the node from.
func item(v, from int, under, load api.Key) api.Item {
	return api.Item{Node: v, From: from, Box: api.Box{Under: under, Load: load}}
}

func leave(who ...int) api.Batch { return api.Batch{Leaves: who} }

func join(who ...int) api.Batch { return api.Batch{Joins: who} }

func move(leaves, joins []int) api.Batch { return api.Batch{Leaves: leaves, Joins: joins} }

// people are n numbers, from one on, so far apart.
func people(from, n, apart int) []int {
	var list []int
	for i := range n {
		list = append(list, from+i*apart)
	}
	return list
}

// bare is a tree without a taken seat, with the keys {v + 1, step}.
func bare(epoch, fresh, step int) api.Tree {
	tree := api.Tree{Epoch: epoch, Fresh: fresh}
	for v := range tree.Keys {
		tree.Keys[v] = k(v+1, step)
	}
	return tree
}

// small is the chapter's T.
func small() api.Tree {
	tree := bare(1, 25, 1)
	for i := range 3 {
		tree.Roster[i] = api.Entry{Who: i + 1, Base: 22 + i, Since: 1}
	}
	return tree
}

// full has all 64 seats taken: at the slot s sits 4 * s with the name 1000 + s, let in at the epoch 1; the keys are {100 + v, step}, and names are given from 2000 on.
func full(epoch, step int) api.Tree {
	tree := api.Tree{Epoch: epoch, Fresh: 2000}
	for v := range tree.Keys {
		tree.Keys[v] = k(100+v, step)
	}
	for s := range tree.Roster {
		tree.Roster[s] = api.Entry{Who: 4 * s, Base: 1000 + s, Since: 1}
	}
	return tree
}

// fullPeople are all that sit in full; others are as many who don't.
func fullPeople() []int { return people(0, 64, 4) }

func others() []int { return people(3, 64, 4) }

// at is the tree with another Fresh.
func at(tree api.Tree, fresh int) api.Tree {
	tree.Fresh = fresh
	return tree
}

// chanceTree is a right one with any names, steps, seats and people, and with room for the names of a step.
func chanceTree(chance *rand.Rand, epoch int) api.Tree {
	tree := api.Tree{Epoch: epoch, Fresh: 30000 + chance.Intn(2600)}
	names := chance.Perm(29999)
	name := func() int {
		base := names[0] + 1
		names = names[1:]
		return base
	}
	for v := range tree.Keys {
		tree.Keys[v] = k(name(), chance.Intn(epoch+1))
	}
	who, share := chance.Perm(256), chance.Intn(65)
	for s := range tree.Roster {
		if epoch > 0 && chance.Intn(64) < share {
			tree.Roster[s] = api.Entry{Who: who[s], Base: name(), Since: 1 + chance.Intn(epoch)}
		}
	}
	return tree
}

// isOn: the slot of a person, by itself.
func isOn(tree api.Tree, who int) (int, bool) {
	for slot, entry := range tree.Roster {
		if entry.Base != 0 && entry.Who == who {
			return slot, true
		}
	}
	return 0, false
}

// chanceBatch fits the tree: so many leave and join of a hundred, as far as there are seats, in any order.
func chanceBatch(chance *rand.Rand, tree api.Tree, leaves, joins int) api.Batch {
	var batch api.Batch
	free := 64 - len(roster.People(tree.Roster))
	all := chance.Perm(256)
	for _, who := range all {
		if _, on := isOn(tree, who); on && chance.Intn(100) < leaves {
			batch.Leaves = append(batch.Leaves, who)
		}
	}
	for _, who := range all {
		_, on := isOn(tree, who)
		if !on && chance.Intn(100) < joins && len(batch.Joins) < free+len(batch.Leaves) {
			batch.Joins = append(batch.Joins, who)
		}
	}
	return batch
}

// above are the inner nodes from a node up to the root.
func above(v int) []int {
	var list []int
	for v > 0 {
		v = (v - 1) / 4
		list = append(list, v)
	}
	return list
}

// modelMask climbs from each leaf.
func modelMask(left []api.Seat) uint32 {
	var mask uint32
	for _, seat := range left {
		if seat.Slot < 0 || seat.Slot > 63 {
			continue
		}
		for _, v := range above(21 + seat.Slot) {
			mask |= 1 << v
		}
	}
	return mask
}

// nodeKey is the key of a node of a right tree; false, if it is a free seat's leaf.
func nodeKey(tree api.Tree, v int) (api.Key, bool) {
	if v <= 20 {
		return tree.Keys[v], true
	}
	entry := tree.Roster[v-21]
	return k(entry.Base, tree.Epoch-entry.Since), entry.Base != 0
}

// isHeld goes down to the leaves.
func isHeld(tree api.Tree, v int) bool {
	if v > 20 {
		return tree.Roster[v-21].Base != 0
	}
	return isHeld(tree, 4*v+1) || isHeld(tree, 4*v+2) || isHeld(tree, 4*v+3) || isHeld(tree, 4*v+4)
}

// modelRefusal asks what may be wrong in the chapter's order.
func modelRefusal(tree api.Tree, batch api.Batch) api.Errno {
	if keytree.Check(tree) != api.OK {
		return api.ErrTree
	}
	if tree.Epoch == 200 {
		return api.ErrEpochSpent
	}
	if e := roster.Fits(tree.Roster, batch); e != api.OK {
		return e
	}
	needed := map[int]bool{}
	for _, who := range batch.Leaves {
		slot, _ := isOn(tree, who)
		for _, v := range above(21 + slot) {
			needed[v] = true
		}
	}
	if tree.Fresh+len(needed)+len(batch.Joins) > 32768 {
		return api.ErrKey
	}
	return api.OK
}

// modelNext goes a step that isn't refused, as DOC.md tells it.
func modelNext(tree api.Tree, batch api.Batch) (api.Tree, api.Rekey) {
	next := tree
	next.Epoch++
	m := api.Rekey{Epoch: next.Epoch}
	for _, who := range batch.Leaves {
		slot, _ := isOn(tree, who)
		m.Leaves = append(m.Leaves, api.Seat{Who: who, Slot: slot})
		next.Roster[slot] = api.Entry{}
	}
	mask := modelMask(m.Leaves)
	for v := 20; v >= 0; v-- {
		next.Keys[v].Step++
		if mask&(1<<v) != 0 {
			next.Keys[v] = k(next.Fresh, 0)
			next.Fresh++
		}
	}
	for _, who := range batch.Joins {
		slot := slices.IndexFunc(next.Roster[:], func(entry api.Entry) bool { return entry.Base == 0 })
		m.Joins = append(m.Joins, api.Seat{Who: who, Slot: slot})
		next.Roster[slot] = api.Entry{Who: who, Base: next.Fresh, Since: next.Epoch}
		next.Fresh++
	}
	for v := 20; v >= 0; v-- {
		for c := 4*v + 1; c <= 4*v+4 && mask&(1<<v) != 0; c++ {
			if under, _ := nodeKey(next, c); isHeld(next, c) {
				m.Items = append(m.Items, item(v, c, under, next.Keys[v]))
			}
		}
	}
	for _, seat := range m.Joins {
		leaf, _ := nodeKey(next, 21+seat.Slot)
		for _, v := range above(21 + seat.Slot) {
			if mask&(1<<v) == 0 {
				m.Items = append(m.Items, item(v, 21+seat.Slot, leaf, next.Keys[v]))
			}
		}
	}
	return next, m
}

func sameRekey(a, b api.Rekey) bool {
	return a.Epoch == b.Epoch && slices.Equal(a.Leaves, b.Leaves) && slices.Equal(a.Joins, b.Joins) && slices.Equal(a.Items, b.Items)
}

// step is one that isn't refused, with its answer.
type step struct {
	tree  api.Tree
	batch api.Batch
	next  api.Tree
	m     api.Rekey
}

// gone goes the step by plan.Next, which must answer as the model.
func gone(t *testing.T, tree api.Tree, batch api.Batch) step {
	t.Helper()
	if e := modelRefusal(tree, batch); e != api.OK {
		t.Fatalf("no step: %v of %v: %d", batch, tree, e)
	}
	next, m, e := plan.Next(tree, batch)
	wantNext, want := modelNext(tree, batch)
	if e != api.OK || next != wantNext || !sameRekey(m, want) {
		t.Fatalf("Next(%v, %v) = %v, %v, %d; want %v, %v", tree, batch, next, m, e, wantNext, want)
	}
	if n, e := plan.Cost(tree, batch); n != len(want.Items) || e != api.OK {
		t.Fatalf("Cost(%v, %v) = %d, %d; want %d", tree, batch, n, e, len(want.Items))
	}
	return step{tree, batch, next, m}
}

// wantError: Next and Cost refuse, and answer zero beside the error.
func wantError(t *testing.T, tree api.Tree, batch api.Batch, want api.Errno) {
	t.Helper()
	next, m, e := plan.Next(tree, batch)
	if e != want || next != (api.Tree{}) || m.Epoch != 0 || len(m.Leaves)+len(m.Joins)+len(m.Items) != 0 {
		t.Fatalf("Next(%v, %v) = %v, %v, %d; want %d", tree, batch, next, m, e, want)
	}
	if n, e := plan.Cost(tree, batch); n != 0 || e != want {
		t.Fatalf("Cost(%v, %v) = %d, %d; want %d", tree, batch, n, e, want)
	}
}

// smallBatches are ordinary ones for the chapter's T.
func smallBatches() []api.Batch {
	list := []api.Batch{
		{}, leave(1), leave(2), leave(3), leave(1, 2), leave(3, 1), leave(2, 3, 1), join(9), join(0), join(255), join(9, 8), join(8, 9, 0, 255),
		join(people(100, 61, 1)...), move([]int{1}, []int{9}), move([]int{3}, []int{9}), move([]int{1}, []int{9, 8}), move([]int{2, 1}, []int{8, 9}),
		move([]int{3, 2, 1}, []int{9}), move([]int{3, 1, 2}, []int{4, 5, 6}), move([]int{3}, people(100, 62, 1)), move([]int{3, 1, 2}, people(100, 64, 1)),
	}
	return append(list, move([]int{2}, people(190, 61, 1)))
}

// fullBatches are those for a tree with all seats taken: each leaver alone, and sets of them that share some, all or none of their nodes.
func fullBatches() []api.Batch {
	list := []api.Batch{
		{}, leave(0, 4), leave(4, 0, 12, 8), leave(0, 16), leave(16, 0, 32, 48), leave(0, 64), leave(0, 252), leave(252, 0), leave(0, 64, 128, 192), leave(fullPeople()[:16]...),
		leave(fullPeople()...), move(fullPeople(), others()), move([]int{0, 252}, []int{3, 7}), move([]int{252, 0}, []int{7, 3}), move([]int{252, 128, 0}, []int{7}),
		move(fullPeople(), []int{3}), move(fullPeople(), others()[:17]), move(fullPeople()[1:], others()[1:]), move(fullPeople()[:63], others()[:1]),
	}
	for slot := range 64 {
		list = append(list, leave(4*slot), move([]int{4 * slot}, []int{4*slot + 3}))
		list = append(list, leave(4*slot, 4*((slot+1)%64)), move([]int{4 * slot, 4 * ((slot + 21) % 64)}, []int{1}))
	}
	return list
}

// row is a row of steps from the beginning on; how many come and go changes on the way.
func row(t *testing.T, seed int64, n int) []step {
	t.Helper()
	chance := rand.New(rand.NewSource(seed))
	tree := keytree.Start()
	var list []step
	for range n {
		shares := []int{0, 2, 5, 10, 30, 90}
		s := gone(t, tree, chanceBatch(chance, tree, shares[chance.Intn(5)], shares[chance.Intn(6)]))
		list = append(list, s)
		tree = s.next
	}
	return list
}

// steps are ordinary ones, the edges, and those of a long row and of any trees.
func steps(t *testing.T) []step {
	t.Helper()
	var list []step
	start := keytree.Start()
	for _, batch := range []api.Batch{{}, join(1, 2, 3), join(0), join(255), join(others()...), join(others()[:63]...), join(others()[:5]...)} {
		list = append(list, gone(t, start, batch), gone(t, bare(199, 22, 199), batch))
	}
	for _, batch := range smallBatches() {
		list = append(list, gone(t, small(), batch))
	}
	for _, batch := range fullBatches() {
		list = append(list, gone(t, full(1, 0), batch), gone(t, full(199, 199), batch))
	}
	list = append(list, row(t, 121, 200)...)
	chance := rand.New(rand.NewSource(122))
	for i := range 150 {
		tree := chanceTree(chance, chance.Intn(200))
		list = append(list, gone(t, tree, chanceBatch(chance, tree, i%101, i*7%50)))
	}
	return list
}

// P12.1: the tree that Next answers is right, at the epoch one on.
func TestNextIsRight(t *testing.T) {
	for _, s := range steps(t) {
		if keytree.Check(s.next) != api.OK || s.next.Epoch != s.tree.Epoch+1 || s.m.Epoch != s.next.Epoch {
			t.Fatalf("%v of %v leads to %v, %v", s.batch, s.tree, s.next, s.m)
		}
	}
}

// P12.1: the first joiners, who make the chapter's T.
func TestFirstJoiners(t *testing.T) {
	next, m, e := plan.Next(keytree.Start(), join(1, 2, 3))
	if next != small() || e != api.OK {
		t.Errorf("%v, %d", next, e)
	}
	var items []api.Item
	for slot := range 3 {
		leaf := k(22+slot, 0)
		items = append(items, item(5, 21+slot, leaf, k(6, 1)), item(1, 21+slot, leaf, k(2, 1)), item(0, 21+slot, leaf, k(1, 1)))
	}
	want := api.Rekey{Epoch: 1, Joins: []api.Seat{{Who: 1, Slot: 0}, {Who: 2, Slot: 1}, {Who: 3, Slot: 2}}, Items: items}
	if !sameRekey(m, want) {
		t.Errorf("%v, want %v", m, want)
	}
}

// P12.1: the chapter's examples 1 and 3.
func TestJoinExamples(t *testing.T) {
	next, m, e := plan.Next(small(), api.Batch{})
	want := bare(2, 25, 2)
	want.Roster = small().Roster
	if next != want || !sameRekey(m, api.Rekey{Epoch: 2}) || e != api.OK {
		t.Errorf("%v, %v, %d", next, m, e)
	}
	next, m, e = plan.Next(small(), join(9))
	want.Fresh = 26
	want.Roster[3] = api.Entry{Who: 9, Base: 25, Since: 2}
	leaf := k(25, 0)
	wantItems := []api.Item{item(5, 24, leaf, k(6, 2)), item(1, 24, leaf, k(2, 2)), item(0, 24, leaf, k(1, 2))}
	if next != want || !sameRekey(m, api.Rekey{Epoch: 2, Joins: []api.Seat{{Who: 9, Slot: 3}}, Items: wantItems}) || e != api.OK {
		t.Errorf("%v, %v, %d", next, m, e)
	}
}

// P12.1: the chapter's examples 2, 4 and 5.
func TestLeaveExamples(t *testing.T) {
	next, m, e := plan.Next(small(), leave(1))
	want := bare(2, 28, 2)
	want.Keys[5], want.Keys[1], want.Keys[0] = k(25, 0), k(26, 0), k(27, 0)
	want.Roster = small().Roster
	want.Roster[0] = api.Entry{}
	items := []api.Item{item(5, 22, k(23, 1), k(25, 0)), item(5, 23, k(24, 1), k(25, 0)), item(1, 5, k(25, 0), k(26, 0)), item(0, 1, k(26, 0), k(27, 0))}
	if next != want || !sameRekey(m, api.Rekey{Epoch: 2, Leaves: []api.Seat{{Who: 1}}, Items: items}) || e != api.OK {
		t.Errorf("%v, %v, %d", next, m, e)
	}
	if n, e := plan.Cost(small(), leave(1)); n != 4 || e != api.OK {
		t.Errorf("Cost = %d, %d", n, e)
	}
	next, m, e = plan.Next(small(), move([]int{1}, []int{9}))
	want.Fresh = 29
	want.Roster[0] = api.Entry{Who: 9, Base: 28, Since: 2}
	items = append([]api.Item{item(5, 21, k(28, 0), k(25, 0))}, items...)
	if next != want || !sameRekey(m, api.Rekey{Epoch: 2, Leaves: []api.Seat{{Who: 1}}, Joins: []api.Seat{{Who: 9}}, Items: items}) || e != api.OK {
		t.Errorf("%v, %v, %d", next, m, e)
	}
}

// P12.1: the chapter's example 5: at the epoch 200 no batch is looked at; at 199 the last step is gone.
func TestLastEpoch(t *testing.T) {
	batches := append(smallBatches(), leave(9), leave(-1), join(1), join(7, 7), join(300), join(people(0, 256, 1)...), join(people(10, 65, 1)...))
	for _, batch := range batches {
		tree := small()
		tree.Epoch = 200
		wantError(t, tree, batch, api.ErrEpochSpent)
		wantError(t, at(tree, 32768), batch, api.ErrEpochSpent)
	}
	for _, batch := range smallBatches() {
		tree := small()
		tree.Epoch = 199
		if s := gone(t, tree, batch); s.next.Epoch != 200 {
			t.Errorf("the epoch %d", s.next.Epoch)
		}
		wantError(t, full(200, 200), batch, api.ErrEpochSpent)
		wantError(t, bare(200, 22, 0), batch, api.ErrEpochSpent)
	}
}

// P12.1: from the slots 0 and 63 of a full tree, which share the root alone, by hand.
func TestBothEndsLeave(t *testing.T) {
	next, m, e := plan.Next(full(7, 3), leave(252, 0))
	want := full(8, 4)
	for i, v := range []int{20, 5, 4, 1, 0} {
		want.Keys[v] = k(2000+i, 0)
	}
	want.Roster[0], want.Roster[63], want.Fresh = api.Entry{}, api.Entry{}, 2005
	items := []api.Item{
		item(20, 81, k(1060, 7), k(2000, 0)), item(20, 82, k(1061, 7), k(2000, 0)), item(20, 83, k(1062, 7), k(2000, 0)),
		item(5, 22, k(1001, 7), k(2001, 0)), item(5, 23, k(1002, 7), k(2001, 0)), item(5, 24, k(1003, 7), k(2001, 0)),
		item(4, 17, k(117, 4), k(2002, 0)), item(4, 18, k(118, 4), k(2002, 0)), item(4, 19, k(119, 4), k(2002, 0)), item(4, 20, k(2000, 0), k(2002, 0)),
		item(1, 5, k(2001, 0), k(2003, 0)), item(1, 6, k(106, 4), k(2003, 0)), item(1, 7, k(107, 4), k(2003, 0)), item(1, 8, k(108, 4), k(2003, 0)),
		item(0, 1, k(2003, 0), k(2004, 0)), item(0, 2, k(102, 4), k(2004, 0)), item(0, 3, k(103, 4), k(2004, 0)), item(0, 4, k(2002, 0), k(2004, 0)),
	}
	left := []api.Seat{{Who: 252, Slot: 63}, {Who: 0, Slot: 0}}
	if next != want || !sameRekey(m, api.Rekey{Epoch: 8, Leaves: left, Items: items}) || e != api.OK {
		t.Errorf("%v, %v, %d", next, m, e)
	}
}

// P12.1: everybody leaves: all keys are new, and nobody is there to be told.
func TestEverybodyLeaves(t *testing.T) {
	next, m, e := plan.Next(full(199, 5), leave(fullPeople()...))
	want := api.Tree{Epoch: 200, Fresh: 2021}
	for v := range want.Keys {
		want.Keys[v] = k(2020-v, 0)
	}
	if next != want || len(m.Leaves) != 64 || len(m.Joins) != 0 || len(m.Items) != 0 || m.Epoch != 200 || e != api.OK {
		t.Errorf("%v, %v, %d", next, m, e)
	}
	next, m, e = plan.Next(small(), leave(2, 3, 1))
	want = bare(2, 28, 2)
	want.Keys[5], want.Keys[1], want.Keys[0] = k(25, 0), k(26, 0), k(27, 0)
	left := []api.Seat{{Who: 2, Slot: 1}, {Who: 3, Slot: 2}, {Who: 1, Slot: 0}}
	if next != want || !sameRekey(m, api.Rekey{Epoch: 2, Leaves: left}) || e != api.OK {
		t.Errorf("%v, %v, %d", next, m, e)
	}
}

// P12.1: all 64 seats become other people's: an item for each node but the root, from the greatest number down and the children rising.
func TestAllSeatsChange(t *testing.T) {
	leaves := fullPeople()
	slices.Reverse(leaves)
	next, m, e := plan.Next(full(1, 1), move(leaves, others()))
	if e != api.OK || next.Epoch != 2 || next.Fresh != 2085 || len(m.Items) != 84 {
		t.Fatalf("%v, %v, %d", next, m, e)
	}
	for slot := range 64 {
		if next.Roster[slot] != (api.Entry{Who: 3 + 4*slot, Base: 2021 + slot, Since: 2}) {
			t.Errorf("slot %d: %v", slot, next.Roster[slot])
		}
		if m.Leaves[slot] != (api.Seat{Who: 252 - 4*slot, Slot: 63 - slot}) || m.Joins[slot] != (api.Seat{Who: 3 + 4*slot, Slot: slot}) {
			t.Errorf("%v, %v", m.Leaves[slot], m.Joins[slot])
		}
	}
	for i, got := range m.Items {
		v := 20 - i/4
		from := 4*v + 1 + i%4
		under := k(2020-from, 0)
		if from > 20 {
			under = k(2021+from-21, 0)
		}
		if got != item(v, from, under, k(2020-v, 0)) {
			t.Errorf("the item %d is %v", i, got)
		}
	}
}

// P12.1: with the first step all seats are taken: three items for each joiner, bottom up, and no key is replaced.
func TestAllSeatsTaken(t *testing.T) {
	who := others()
	slices.Reverse(who)
	next, m, e := plan.Next(keytree.Start(), join(who...))
	if e != api.OK || next.Fresh != 86 || next.Keys != bare(1, 22, 1).Keys || len(m.Items) != 192 || len(m.Leaves) != 0 {
		t.Fatalf("%v, %v, %d", next, m, e)
	}
	for slot := range 64 {
		if next.Roster[slot] != (api.Entry{Who: 255 - 4*slot, Base: 22 + slot, Since: 1}) || m.Joins[slot] != (api.Seat{Who: 255 - 4*slot, Slot: slot}) {
			t.Errorf("slot %d: %v, %v", slot, next.Roster[slot], m.Joins[slot])
		}
		for place, v := range []int{5 + slot/4, 1 + slot/16, 0} {
			if got := m.Items[3*slot+place]; got != item(v, 21+slot, k(22+slot, 0), k(v+1, 1)) {
				t.Errorf("slot %d: %v", slot, got)
			}
		}
	}
	wantError(t, next, join(1), api.ErrGroupFull)
}

// P12.1: the leavers' seats are given again first, and who gets a seat away from them is told just what isn't replaced, under its leaf.
func TestSomeNodesReplaced(t *testing.T) {
	tree := bare(4, 60, 2)
	for slot := range 5 {
		tree.Roster[slot] = api.Entry{Who: 10 + slot, Base: 50 + slot, Since: 2}
	}
	next, m, e := plan.Next(tree, move([]int{11}, []int{30, 20, 40}))
	if e != api.OK || next.Fresh != 66 {
		t.Fatalf("%v, %v, %d", next, m, e)
	}
	joined := []api.Seat{{Who: 30, Slot: 1}, {Who: 20, Slot: 5}, {Who: 40, Slot: 6}}
	items := []api.Item{
		item(5, 21, k(50, 3), k(60, 0)), item(5, 22, k(63, 0), k(60, 0)), item(5, 23, k(52, 3), k(60, 0)), item(5, 24, k(53, 3), k(60, 0)),
		item(1, 5, k(60, 0), k(61, 0)), item(1, 6, k(7, 3), k(61, 0)), item(0, 1, k(61, 0), k(62, 0)),
		item(6, 26, k(64, 0), k(7, 3)), item(6, 27, k(65, 0), k(7, 3)),
	}
	if !sameRekey(m, api.Rekey{Epoch: 5, Leaves: []api.Seat{{Who: 11, Slot: 1}}, Joins: joined, Items: items}) {
		t.Errorf("%v", m)
	}
}

// P12.1: of every leaver of a full tree the three nodes above are replaced and no other.
func TestKeysOfOneLeaver(t *testing.T) {
	for slot := range 64 {
		next, m, e := plan.Next(full(9, 4), leave(4*slot))
		want := full(10, 5).Keys
		want[5+slot/4], want[1+slot/16], want[0] = k(2000, 0), k(2001, 0), k(2002, 0)
		if e != api.OK || next.Keys != want || next.Fresh != 2003 || len(m.Items) != 11 {
			t.Errorf("slot %d: %v, %v, %d", slot, next, m, e)
		}
	}
}

// P12.1: Cost is the number of the items, by hand, and stands beside no error.
func TestCost(t *testing.T) {
	list := []struct {
		tree  api.Tree
		batch api.Batch
		want  int
	}{
		{small(), api.Batch{}, 0}, {small(), leave(1), 4}, {small(), join(9), 3}, {small(), move([]int{1}, []int{9}), 5}, {small(), leave(1, 2, 3), 0},
		{full(1, 0), leave(0), 11}, {full(1, 0), leave(0, 4), 10}, {full(1, 0), leave(0, 16), 14}, {full(1, 0), leave(0, 64), 18},
		{full(1, 0), move(fullPeople(), others()), 84}, {keytree.Start(), join(others()...), 192}, {keytree.Start(), api.Batch{}, 0},
	}
	for _, c := range list {
		if n, e := plan.Cost(c.tree, c.batch); n != c.want || e != api.OK {
			t.Errorf("Cost(%v, %v) = %d, %d; want %d", c.tree, c.batch, n, e, c.want)
		}
	}
}

// farNumbers are beyond every limit, and among them are those that would look like a number in bounds if a conversion cut them or a sum ran over.
func farNumbers() []int {
	return []int{
		-1, -2, -21, -63, -64, -85, -256, -255, -32768, -65536 + 22, -1 << 31, -1<<31 + 22, -1 << 32, -1<<32 + 1, math.MinInt, math.MinInt + 1, math.MinInt + 22,
		256, 257, 32769, 65535, 65536, 65536 + 1, 65536 + 22, 1<<31 - 1, 1 << 31, 1<<31 + 22, 1<<32 - 1, 1 << 32, 1<<32 + 1, 1<<32 + 22, 1 << 62,
		math.MaxInt - 85, math.MaxInt - 21, math.MaxInt - 1, math.MaxInt,
	}
}

func wantReplaced(t *testing.T, left []api.Seat, want uint32) {
	t.Helper()
	if got := plan.Replaced(left); got != want {
		t.Fatalf("Replaced(%v) = %x, want %x", left, got, want)
	}
}

// P12.1: Replaced of nobody, of each slot, and of any two.
func TestReplaced(t *testing.T) {
	wantReplaced(t, nil, 0)
	wantReplaced(t, []api.Seat{}, 0)
	wantReplaced(t, []api.Seat{{Slot: 0}}, 1<<5|1<<1|1)
	wantReplaced(t, []api.Seat{{Slot: 63}}, 1<<20|1<<4|1)
	wantReplaced(t, []api.Seat{{Slot: 37}}, 1<<14|1<<3|1)
	wantReplaced(t, []api.Seat{{Slot: 3}, {Slot: 1}}, 1<<5|1<<1|1)
	wantReplaced(t, []api.Seat{{Slot: 0}, {Slot: 4}}, 1<<6|1<<5|1<<1|1)
	wantReplaced(t, []api.Seat{{Slot: 0}, {Slot: 63}}, 1<<20|1<<5|1<<4|1<<1|1)
	var all []api.Seat
	for slot := range 64 {
		all = append(all, api.Seat{Who: slot, Slot: slot})
		for other := range 64 {
			list := []api.Seat{{Slot: slot}, {Slot: other}}
			wantReplaced(t, list, modelMask(list))
		}
	}
	wantReplaced(t, all, every)
}

// P12.1: seats whose Slot is no slot are passed over, wherever they stand, and Who isn't looked at.
func TestReplacedNoSlot(t *testing.T) {
	for _, far := range append(farNumbers(), 64, 65, 84, 85, 127, 128, 192, 320) {
		wantReplaced(t, []api.Seat{{Slot: far}}, 0)
		wantReplaced(t, []api.Seat{{Slot: far}, {Slot: 0}}, 35)
		wantReplaced(t, []api.Seat{{Slot: 0}, {Slot: far}}, 35)
		wantReplaced(t, []api.Seat{{Slot: 63}, {Slot: far}, {Slot: far}, {Slot: 0}}, 1<<20|1<<4|35)
		wantReplaced(t, []api.Seat{{Who: far, Slot: 0}, {Who: far, Slot: 0}}, 35)
	}
	wantReplaced(t, []api.Seat{{Slot: 0}, {Slot: 64}}, 35)
}

// P12.1: any lists of seats, doubles among them; the list stays.
func TestReplacedAny(t *testing.T) {
	chance := rand.New(rand.NewSource(123))
	for range 3000 {
		list := make([]api.Seat, chance.Intn(12), 16)
		for i := range list {
			list[i] = api.Seat{Who: chance.Intn(300) - 20, Slot: chance.Intn(80) - 8}
		}
		before := slices.Clone(list[:16])
		wantReplaced(t, list, modelMask(list))
		wantReplaced(t, append(slices.Clone(list), list...), modelMask(list))
		if !slices.Equal(list[:16], before) {
			t.Fatalf("the list became %v", list[:16])
		}
	}
}

// P12.2, P8: at most 4 * 3 items for each who leaves or joins, and none if nobody does.
func TestAtMostTwelve(t *testing.T) {
	for _, s := range steps(t) {
		moves := len(s.batch.Leaves) + len(s.batch.Joins)
		if len(s.m.Leaves) != len(s.batch.Leaves) || len(s.m.Joins) != len(s.batch.Joins) || len(s.m.Items) > 12*moves {
			t.Fatalf("%v has %d items: %v", s.batch, len(s.m.Items), s.m)
		}
	}
}

// given is the key that the message gives for the node to who has own, the key of the node from; false, if it doesn't.
func given(m api.Rekey, v, from int, own api.Key) (api.Key, bool) {
	for _, it := range m.Items {
		if it.Node != v || it.From != from || it.Box.Under != own {
			continue
		}
		load, e := key.Open(it.Box, own)
		return load, e == api.OK
	}
	return api.Key{}, false
}

// stays is what somebody who stays has behind the message, of its old keys, from the leaf to the root, and the message alone.
func stays(m api.Rekey, slot int, held []api.Key) ([]api.Key, bool) {
	mask := modelMask(m.Leaves)
	now := []api.Key{k(held[0].Base, held[0].Step+1)}
	below := 21 + slot
	for place, v := range above(below) {
		next, ok := k(held[place+1].Base, held[place+1].Step+1), true
		if mask&(1<<v) != 0 {
			next, ok = given(m, v, below, now[place])
		}
		if !ok {
			return nil, false
		}
		now = append(now, next)
		below = v
	}
	return now, true
}

// joins is what somebody who joins has behind the message, of its leaf key and the message alone.
func joins(m api.Rekey, slot int, leaf api.Key) ([]api.Key, bool) {
	mask := modelMask(m.Leaves)
	now := []api.Key{leaf}
	below := 21 + slot
	for place, v := range above(below) {
		next, ok := given(m, v, 21+slot, leaf)
		if mask&(1<<v) != 0 {
			next, ok = given(m, v, below, now[place])
		}
		if !ok {
			return nil, false
		}
		now = append(now, next)
		below = v
	}
	return now, true
}

// heldAt are the keys of a taken seat, from the leaf to the root.
func heldAt(tree api.Tree, slot int) []api.Key {
	leaf, _ := nodeKey(tree, 21+slot)
	list := []api.Key{leaf}
	for _, v := range above(21 + slot) {
		list = append(list, tree.Keys[v])
	}
	return list
}

// P12.3: everybody who stays, and everybody who joins, has all of its new keys of its own ones and the message alone.
func TestAllHear(t *testing.T) {
	for _, s := range steps(t) {
		for slot, entry := range s.next.Roster {
			if entry.Base == 0 {
				continue
			}
			want := heldAt(s.next, slot)
			got, ok := joins(s.m, slot, want[0])
			if !slices.Contains(s.batch.Joins, entry.Who) {
				got, ok = stays(s.m, slot, heldAt(s.tree, slot))
			}
			if !ok || !slices.Equal(got, want) {
				t.Fatalf("%d at slot %d has %v, want %v: %v", entry.Who, slot, got, want, s.m)
			}
		}
	}
}

// P12.3: who stays keeps its seat and its entry, who left isn't on, who joins is on where it is told; nobody else is.
func TestSeatsAsTold(t *testing.T) {
	for _, s := range steps(t) {
		for slot, entry := range s.tree.Roster {
			if entry.Base != 0 && !slices.Contains(s.batch.Leaves, entry.Who) && s.next.Roster[slot] != entry {
				t.Fatalf("%v became %v", entry, s.next.Roster[slot])
			}
		}
		for i, who := range s.batch.Leaves {
			if _, on := isOn(s.next, who); on || s.m.Leaves[i].Who != who || s.tree.Roster[s.m.Leaves[i].Slot].Who != who {
				t.Fatalf("%d left: %v, %v", who, s.m, s.next.Roster)
			}
		}
		for i, who := range s.batch.Joins {
			if slot, on := isOn(s.next, who); !on || s.m.Joins[i] != (api.Seat{Who: who, Slot: slot}) {
				t.Fatalf("%d joined: %v, %v", who, s.m, s.next.Roster)
			}
		}
		if was, is := len(roster.People(s.tree.Roster)), len(roster.People(s.next.Roster)); is != was-len(s.batch.Leaves)+len(s.batch.Joins) {
			t.Fatalf("%d were on, %d are: %v", was, is, s.batch)
		}
	}
}

// known has of each name the least step that somebody has.
type known map[int]int

func (n known) has(x api.Key) bool {
	least, ok := n[x.Base]
	return ok && least <= x.Step
}

// derived is all that comes of the keys and the boxes.
func derived(keys []api.Key, boxes []api.Box) known {
	n := known{}
	add := func(x api.Key) bool {
		if n.has(x) {
			return false
		}
		n[x.Base] = x.Step
		return true
	}
	for _, x := range keys {
		add(x)
	}
	for more := true; more; {
		more = false
		for _, box := range boxes {
			if n.has(box.Under) && add(box.Load) {
				more = true
			}
		}
	}
	return n
}

func boxes(list ...api.Rekey) []api.Box {
	var all []api.Box
	for _, m := range list {
		for _, it := range m.Items {
			all = append(all, it.Box)
		}
	}
	return all
}

// wantNone: no key of a node of the tree is had.
func wantNone(t *testing.T, n known, tree api.Tree, s step) {
	t.Helper()
	for v := range api.Nodes {
		if own, ok := nodeKey(tree, v); ok && n.has(own) {
			t.Fatalf("the key %v of node %d is had: %v, %v", own, v, s.batch, s.m)
		}
	}
}

// P12.4: all leavers together, with all boxes, have no key of the new tree.
func TestWhoLeftHasNothing(t *testing.T) {
	count := 0
	for _, s := range steps(t) {
		var keys []api.Key
		for _, seat := range s.m.Leaves {
			keys = append(keys, heldAt(s.tree, seat.Slot)...)
			count++
		}
		wantNone(t, derived(keys, boxes(s.m)), s.next, s)
	}
	if count < 500 {
		t.Errorf("only %d left", count)
	}
}

// P12.5: all joiners together, with all boxes, have no key of the old tree.
func TestWhoJoinsHasNothingOld(t *testing.T) {
	count := 0
	for _, s := range steps(t) {
		var keys []api.Key
		for _, seat := range s.m.Joins {
			leaf, _ := nodeKey(s.next, 21+seat.Slot)
			keys = append(keys, leaf)
			count++
		}
		wantNone(t, derived(keys, boxes(s.m)), s.tree, s)
	}
	if count < 500 {
		t.Errorf("only %d joined", count)
	}
}

// P4: the boxes by themselves, and the names that are the adversary's, give nothing of any epoch.
func TestBoxesAloneGiveNothing(t *testing.T) {
	list := row(t, 124, 120)
	var messages []api.Rekey
	for _, s := range list {
		messages = append(messages, s.m)
	}
	var foreign []api.Key
	for base := 32768; base <= 65535; base++ {
		foreign = append(foreign, k(base, 0))
	}
	n := derived(foreign, boxes(messages...))
	for _, s := range list {
		wantNone(t, n, s.next, s)
	}
}

// stayedFrom: was the person on in every epoch from one to another, and is the node on its path? The trees stand by their epochs.
func stayedFrom(trees []api.Tree, open api.Reveal, epoch, v int) bool {
	if open.Epoch > epoch {
		return false
	}
	for e := open.Epoch; e <= epoch; e++ {
		slot, on := isOn(trees[e], open.Who)
		if !on || !slices.Contains(above(21+slot), v) {
			return false
		}
	}
	return true
}

// wantExposed: with all messages and the opened members' keys each node's key is had at just the epochs to which one of them stayed, on a path through it.
func wantExposed(t *testing.T, trees []api.Tree, all []api.Box, opened []api.Reveal) {
	t.Helper()
	var keys []api.Key
	for _, open := range opened {
		slot, on := isOn(trees[open.Epoch], open.Who)
		if !on {
			t.Fatalf("%v wasn't on", open)
		}
		keys = append(keys, heldAt(trees[open.Epoch], slot)...)
	}
	n := derived(keys, all)
	for epoch, tree := range trees {
		for v := range api.Inner {
			stayed := slices.ContainsFunc(opened, func(open api.Reveal) bool { return stayedFrom(trees, open, epoch, v) })
			if n.has(tree.Keys[v]) != stayed {
				t.Fatalf("opened %v: node %d at the epoch %d: had %v, stayed %v", opened, v, epoch, !stayed, stayed)
			}
		}
	}
}

// treesOf are the trees of a row by their epochs, and all boxes of its messages.
func treesOf(list []step) ([]api.Tree, []api.Box) {
	trees := []api.Tree{list[0].tree}
	var messages []api.Rekey
	for _, s := range list {
		trees = append(trees, s.next)
		messages = append(messages, s.m)
	}
	return trees, boxes(messages...)
}

// P4: over rows of steps: each member alone at each epoch.
func TestOpenedAlone(t *testing.T) {
	trees, all := treesOf(row(t, 125, 25))
	for epoch, tree := range trees {
		for _, who := range roster.People(tree.Roster) {
			wantExposed(t, trees, all, []api.Reveal{{Who: who, Epoch: epoch}})
		}
	}
}

// P4: over rows of steps: several members, who may have come and gone many times.
func TestOpenedTogether(t *testing.T) {
	chance := rand.New(rand.NewSource(126))
	for seed := range 12 {
		trees, all := treesOf(row(t, 1260+int64(seed), 45))
		wantExposed(t, trees, all, nil)
		for range 12 {
			var opened []api.Reveal
			for range 1 + chance.Intn(4) {
				epoch := 1 + chance.Intn(45)
				if on := roster.People(trees[epoch].Roster); len(on) > 0 {
					opened = append(opened, api.Reveal{Who: on[chance.Intn(len(on))], Epoch: epoch})
				}
			}
			wantExposed(t, trees, all, opened)
		}
	}
}

// P4: who leaves and comes back, at the same seat, has what was at its stays and nothing in between, nor of the second stay if it was opened in the first.
func TestBackAgain(t *testing.T) {
	var list []step
	tree := keytree.Start()
	for _, batch := range []api.Batch{join(1, 2), {}, leave(1), {}, join(1), {}, leave(2), move([]int{1}, []int{2})} {
		s := gone(t, tree, batch)
		list = append(list, s)
		tree = s.next
	}
	trees, all := treesOf(list)
	group := func(opened ...api.Reveal) []int {
		var keys []api.Key
		for _, open := range opened {
			slot, _ := isOn(trees[open.Epoch], open.Who)
			keys = append(keys, heldAt(trees[open.Epoch], slot)...)
		}
		n := derived(keys, all)
		var epochs []int
		for epoch, tree := range trees {
			if n.has(tree.Keys[0]) {
				epochs = append(epochs, epoch)
			}
		}
		return epochs
	}
	for _, c := range []struct {
		opened api.Reveal
		want   []int
	}{
		{api.Reveal{Who: 1, Epoch: 1}, []int{1, 2}}, {api.Reveal{Who: 1, Epoch: 2}, []int{2}}, {api.Reveal{Who: 1, Epoch: 5}, []int{5, 6, 7}},
		{api.Reveal{Who: 2, Epoch: 1}, []int{1, 2, 3, 4, 5, 6}}, {api.Reveal{Who: 2, Epoch: 4}, []int{4, 5, 6}}, {api.Reveal{Who: 2, Epoch: 8}, []int{8}},
	} {
		if got := group(c.opened); !slices.Equal(got, c.want) {
			t.Errorf("%v gives the group keys of %v, want %v", c.opened, got, c.want)
		}
		wantExposed(t, trees, all, []api.Reveal{c.opened})
	}
	if got := group(api.Reveal{Who: 1, Epoch: 2}, api.Reveal{Who: 1, Epoch: 7}); !slices.Equal(got, []int{2, 7}) {
		t.Errorf("both stays give %v", got)
	}
}

// P12.6: the replaced nodes, from the greatest number down, and the joiners, in the batch's order, have the names from the old Fresh on, each once; no other name is new.
func TestFreshNames(t *testing.T) {
	for _, s := range steps(t) {
		mask := modelMask(s.m.Leaves)
		var names []int
		for v := 20; v >= 0; v-- {
			switch {
			case mask&(1<<v) == 0 && s.next.Keys[v] != k(s.tree.Keys[v].Base, s.tree.Keys[v].Step+1):
				t.Fatalf("node %d: %v became %v", v, s.tree.Keys[v], s.next.Keys[v])
			case mask&(1<<v) != 0 && s.next.Keys[v].Step != 0:
				t.Fatalf("node %d became %v", v, s.next.Keys[v])
			case mask&(1<<v) != 0:
				names = append(names, s.next.Keys[v].Base)
			}
		}
		for _, seat := range s.m.Joins {
			names = append(names, s.next.Roster[seat.Slot].Base)
		}
		for i, name := range names {
			if name != s.tree.Fresh+i {
				t.Fatalf("%v of Fresh %d gives %v", s.batch, s.tree.Fresh, names)
			}
		}
		if s.next.Fresh != s.tree.Fresh+len(names) {
			t.Fatalf("Fresh %d became %d with %v", s.tree.Fresh, s.next.Fresh, names)
		}
		for slot, entry := range s.next.Roster {
			if entry.Base != 0 && !slices.Contains(s.batch.Joins, entry.Who) && entry != s.tree.Roster[slot] {
				t.Fatalf("slot %d: %v became %v", slot, s.tree.Roster[slot], entry)
			}
		}
	}
}

// P12.6: over a row no name begins twice.
func TestNoNameAgain(t *testing.T) {
	began := map[int]int{}
	for v := range 21 {
		began[v+1] = 0
	}
	for _, s := range row(t, 127, 200) {
		for v := range api.Nodes {
			own, ok := nodeKey(s.next, v)
			if !ok || own.Step != 0 {
				continue
			}
			if epoch, twice := began[own.Base]; twice {
				t.Fatalf("the name %d begins at %d and at %d", own.Base, epoch, s.next.Epoch)
			}
			began[own.Base] = s.next.Epoch
		}
	}
}

// P12.6, P12.7: the greatest batches at all 200 epochs: names below 17100 suffice.
func TestNamesSuffice(t *testing.T) {
	tree := keytree.Start()
	on, off := []int(nil), people(0, 64, 2)
	for tree.Epoch < 200 {
		s := gone(t, tree, move(on, off))
		tree = s.next
		on, off = off, on
		if len(off) == 0 {
			off = people(1, 64, 2)
		}
	}
	if tree.Fresh != 22+64+199*85 || tree.Fresh >= 17100 {
		t.Errorf("Fresh is %d", tree.Fresh)
	}
	wantError(t, tree, api.Batch{}, api.ErrEpochSpent)
}

// P12.1: the names given just reach OwnBase, and one more is refused; a batch of nobody needs none.
func TestNamesReachOwnBase(t *testing.T) {
	list := []struct {
		tree   api.Tree
		batch  api.Batch
		needed int
	}{
		{small(), api.Batch{}, 0}, {small(), leave(1), 3}, {small(), leave(3, 2, 1), 3}, {small(), join(9), 1}, {small(), join(people(10, 61, 1)...), 61},
		{small(), move([]int{1}, []int{9}), 4}, {small(), move([]int{2, 1}, []int{9, 8, 7}), 6}, {full(1, 0), leave(0, 252), 5}, {full(1, 0), leave(0, 16), 4},
		{full(1, 0), leave(fullPeople()...), 21}, {full(1, 0), move(fullPeople(), others()), 85}, {full(199, 199), move(fullPeople(), others()), 85},
		{keytree.Start(), join(others()...), 64}, {keytree.Start(), api.Batch{}, 0},
	}
	for _, c := range list {
		for room := range c.needed + 4 {
			tree := at(c.tree, 32768-room)
			if room < c.needed {
				wantError(t, tree, c.batch, api.ErrKey)
				continue
			}
			if s := gone(t, tree, c.batch); s.next.Fresh != 32768-room+c.needed || keytree.Check(s.next) != api.OK {
				t.Fatalf("%d of %d names: Fresh is %d", c.needed, room, s.next.Fresh)
			}
		}
	}
}

// P12.1: at the last name the tree goes on without anybody, and gives no more.
func TestNoNameLeft(t *testing.T) {
	tree := gone(t, at(small(), 32764), move([]int{1}, []int{9})).next
	if tree.Fresh != 32768 || tree.Roster[0].Base != 32767 {
		t.Fatalf("%v", tree)
	}
	wantError(t, tree, join(7), api.ErrKey)
	wantError(t, tree, leave(2), api.ErrKey)
	wantError(t, tree, move([]int{9}, []int{7}), api.ErrKey)
	if s := gone(t, tree, api.Batch{}); s.next.Fresh != 32768 || len(s.m.Items) != 0 {
		t.Errorf("%v", s)
	}
}

// P12.7: the errors of roster.Fits, each, at its place in the batch.
func TestBatchErrors(t *testing.T) {
	list := []struct {
		batch api.Batch
		want  api.Errno
	}{
		{leave(-1), api.ErrWho}, {leave(256), api.ErrWho}, {join(-1), api.ErrWho}, {join(256), api.ErrWho}, {join(9, 256), api.ErrWho}, {leave(1, math.MinInt), api.ErrWho},
		{leave(1, 1), api.ErrTwice}, {join(9, 9), api.ErrTwice}, {join(9, 8, 9), api.ErrTwice}, {move([]int{1}, []int{1}), api.ErrTwice}, {move([]int{2, 1}, []int{9, 2}), api.ErrTwice},
		{leave(9), api.ErrNotOn}, {leave(0), api.ErrNotOn}, {leave(1, 255), api.ErrNotOn}, {move([]int{9}, []int{9}), api.ErrNotOn},
		{join(1), api.ErrOn}, {join(9, 3), api.ErrOn}, {move([]int{1}, []int{2}), api.ErrOn},
		{move([]int{9}, []int{300}), api.ErrNotOn}, {leave(300, 9), api.ErrWho}, {leave(9, 300), api.ErrNotOn}, {leave(1, 1, 9), api.ErrTwice}, {join(1, 256), api.ErrOn}, {join(256, 1), api.ErrWho},
		{join(people(10, 62, 1)...), api.ErrGroupFull}, {join(people(10, 200, 1)...), api.ErrGroupFull}, {move([]int{1}, people(10, 63, 1)), api.ErrGroupFull}, {move([]int{1, 2, 3}, people(10, 65, 1)), api.ErrGroupFull},
		{join(append(people(10, 62, 1), 1)...), api.ErrOn}, {join(append(people(10, 62, 1), 10)...), api.ErrTwice}, {join(append(people(10, 62, 1), 256)...), api.ErrWho},
	}
	for _, c := range list {
		wantError(t, small(), c.batch, c.want)
		// Ahead of ErrKey, behind ErrEpochSpent and ErrTree.
		wantError(t, at(small(), 32768), c.batch, c.want)
		spent := at(small(), 32768)
		spent.Epoch = 200
		wantError(t, spent, c.batch, api.ErrEpochSpent)
		spent.Keys[20].Base = 0
		wantError(t, spent, c.batch, api.ErrTree)
	}
	for _, far := range farNumbers() {
		wantError(t, small(), leave(far), api.ErrWho)
		wantError(t, small(), join(far), api.ErrWho)
		wantError(t, full(1, 1), move([]int{0}, []int{1, far}), api.ErrWho)
	}
}

// P12.7: a batch of people each once, the leavers on, the joiners not: refused just at the last epoch, and just if there are too few seats.
func TestExactRefusals(t *testing.T) {
	chance := rand.New(rand.NewSource(128))
	count := map[api.Errno]int{}
	for i := range 900 {
		epoch := []int{0, 1, 50, 198, 199, 200}[i%6]
		tree := chanceTree(chance, epoch)
		batch := chanceBatch(chance, tree, chance.Intn(60), 0)
		on := roster.People(tree.Roster)
		seats := 64 - len(on) + len(batch.Leaves)
		n := max(0, seats-2+chance.Intn(5))
		for _, who := range chance.Perm(256) {
			if _, is := isOn(tree, who); !is && len(batch.Joins) < n {
				batch.Joins = append(batch.Joins, who)
			}
		}
		want := api.OK
		switch {
		case epoch == 200:
			want = api.ErrEpochSpent
		case len(batch.Joins) > seats:
			want = api.ErrGroupFull
		}
		count[want]++
		if want != api.OK {
			wantError(t, tree, batch, want)
			continue
		}
		gone(t, tree, batch)
	}
	if count[api.OK] < 200 || count[api.ErrGroupFull] < 100 || count[api.ErrEpochSpent] < 100 {
		t.Errorf("the answers came so often: %v", count)
	}
}

// P12.7: at each number of taken seats just so many may join as are free behind the leaves.
func TestSeatsJustSuffice(t *testing.T) {
	tree := keytree.Start()
	for taken := range 65 {
		free := 64 - taken
		gone(t, tree, join(people(100, free, 1)...))
		wantError(t, tree, join(people(100, free+1, 1)...), api.ErrGroupFull)
		for _, n := range []int{1, taken / 2, taken} {
			if n > 0 && n <= taken {
				gone(t, tree, move(people(0, n, 1), people(100, free+n, 1)))
				wantError(t, tree, move(people(0, n, 1), people(100, free+n+1, 1)), api.ErrGroupFull)
			}
		}
		if taken < 64 {
			tree = gone(t, tree, join(taken)).next
		}
	}
}

// wrongTrees have each one wrong number.
func wrongTrees() []api.Tree {
	list := []api.Tree{{}, {Fresh: 22}, {Epoch: 1, Fresh: 22}, at(small(), 24), at(small(), 21), at(small(), 0), at(small(), 32769)}
	spoil := func(change func(*api.Tree)) {
		for _, tree := range []api.Tree{small(), full(17, 4), full(200, 200)} {
			change(&tree)
			list = append(list, tree)
		}
	}
	for _, far := range farNumbers() {
		spoil(func(tree *api.Tree) { tree.Fresh = far })
		spoil(func(tree *api.Tree) { tree.Epoch = far })
		for _, v := range []int{0, 5, 20} {
			spoil(func(tree *api.Tree) { tree.Keys[v].Step = far })
		}
		for _, slot := range []int{0, 1, 2} {
			spoil(func(tree *api.Tree) { tree.Roster[slot].Who = far })
			spoil(func(tree *api.Tree) { tree.Roster[slot].Since = far })
		}
	}
	for v := range api.Inner {
		spoil(func(tree *api.Tree) { tree.Keys[v].Base = 0 })
		spoil(func(tree *api.Tree) { tree.Keys[v].Base = tree.Fresh })
		spoil(func(tree *api.Tree) { tree.Keys[v].Base = tree.Keys[(v+1)%21].Base })
		spoil(func(tree *api.Tree) { tree.Keys[v].Step = tree.Epoch + 1 })
		spoil(func(tree *api.Tree) { tree.Keys[v].Base = tree.Roster[2].Base })
	}
	for slot := range api.MaxMembers {
		spoil(func(tree *api.Tree) { tree.Roster[slot] = api.Entry{Who: 7} })
		spoil(func(tree *api.Tree) { tree.Roster[slot] = api.Entry{Since: 1} })
		spoil(func(tree *api.Tree) { tree.Roster[slot] = api.Entry{Who: 7, Base: tree.Fresh, Since: 1} })
		spoil(func(tree *api.Tree) { tree.Roster[slot] = api.Entry{Who: 7, Base: 50, Since: tree.Epoch + 1} })
		spoil(func(tree *api.Tree) { tree.Roster[slot] = tree.Roster[(slot+1)%2] })
	}
	return slices.DeleteFunc(list, func(tree api.Tree) bool { return keytree.Check(tree) == api.OK })
}

// P12.1: a tree that isn't right is told ahead of all else.
func TestWrongTreeFirst(t *testing.T) {
	list := wrongTrees()
	if len(list) < 1500 {
		t.Fatalf("only %d trees", len(list))
	}
	for _, tree := range list {
		for _, batch := range []api.Batch{{}, leave(1), join(9), leave(9), join(-1), join(9, 9), join(others()...), join(people(0, 256, 1)...)} {
			wantError(t, tree, batch, api.ErrTree)
		}
	}
}

// P1: whatever is handed in is answered, and as the model does.
func TestAnything(t *testing.T) {
	chance := rand.New(rand.NewSource(129))
	numbers := append(farNumbers(), 0, 1, 2, 3, 4, 8, 9, 20, 21, 22, 63, 64, 84, 85, 199, 200, 201, 252, 255, 2000, 32767, 32768)
	pick := func() int { return numbers[chance.Intn(len(numbers))] }
	count := map[api.Errno]int{}
	for range 8000 {
		tree := []api.Tree{small(), full(1, 0), full(199, 7), full(200, 200), keytree.Start(), {}}[chance.Intn(6)]
		for range chance.Intn(3) {
			switch v, slot := chance.Intn(21), chance.Intn(64); chance.Intn(8) {
			case 0:
				tree.Epoch = pick()
			case 1:
				tree.Fresh = pick()
			case 2:
				tree.Keys[v] = k(pick(), pick())
			case 3:
				tree.Roster[slot] = api.Entry{Who: pick(), Base: pick(), Since: pick()}
			case 4:
				tree.Fresh = 32768 - chance.Intn(5)
			default:
				tree.Roster[slot] = api.Entry{}
			}
		}
		batch := chanceBatch(chance, tree, chance.Intn(10), chance.Intn(3))
		for range chance.Intn(3) {
			switch chance.Intn(5) {
			case 0:
				batch.Leaves = append(batch.Leaves, pick())
			case 1:
				batch.Joins = append(batch.Joins, pick())
			case 2:
				batch.Joins = append(batch.Joins, batch.Leaves...)
			}
		}
		want := modelRefusal(tree, batch)
		count[want]++
		if want != api.OK {
			wantError(t, tree, batch, want)
			continue
		}
		gone(t, tree, batch)
	}
	for _, e := range []api.Errno{api.OK, api.ErrTree, api.ErrEpochSpent, api.ErrWho, api.ErrTwice, api.ErrNotOn, api.ErrOn, api.ErrGroupFull, api.ErrKey} {
		if count[e] < 10 {
			t.Errorf("the answers came so often: %v", count)
		}
	}
}

// R4: a nil list and an empty one mean the same.
func TestEmptyLists(t *testing.T) {
	for _, tree := range []api.Tree{keytree.Start(), small(), full(5, 5)} {
		one, a, e1 := plan.Next(tree, api.Batch{})
		other, b, e2 := plan.Next(tree, move([]int{}, []int{}))
		if one != other || !sameRekey(a, b) || e1 != api.OK || e2 != api.OK {
			t.Errorf("%v, %v", a, b)
		}
	}
}

// roomy is a list with spare room, which has numbers too.
func roomy(list []int) []int {
	long := append(slices.Clone(list), 77, 78, 79, 80)
	return long[:len(list)]
}

// R5: the batch's lists stay, their spare room too, with steps that are gone and with refused ones.
func TestBatchStays(t *testing.T) {
	for _, batch := range append(smallBatches(), leave(9), join(1), join(9, 9), move([]int{1}, []int{256}), join(people(10, 62, 1)...)) {
		own := move(roomy(batch.Leaves), roomy(batch.Joins))
		for _, tree := range []api.Tree{small(), at(small(), 32768), full(200, 1), {}} {
			plan.Next(tree, own)
			plan.Cost(tree, own)
		}
		if !slices.Equal(own.Leaves[:len(batch.Leaves)+4], append(slices.Clone(batch.Leaves), 77, 78, 79, 80)) || !slices.Equal(own.Joins[:len(batch.Joins)+4], append(slices.Clone(batch.Joins), 77, 78, 79, 80)) {
			t.Errorf("%v became %v", batch, own)
		}
	}
}

// scrawl writes all over a list, its spare room too.
func scrawl[T any](list []T, with T) {
	list = list[:cap(list)]
	for i := range list {
		list[i] = with
	}
}

// cloned is a message of new memory.
func cloned(m api.Rekey) api.Rekey {
	return api.Rekey{Epoch: m.Epoch, Leaves: slices.Clone(m.Leaves), Joins: slices.Clone(m.Joins), Items: slices.Clone(m.Items)}
}

// R5: the message's lists are new memory: who writes on one of them changes no other one, no other answer and no batch.
func TestNewMemory(t *testing.T) {
	for _, batch := range smallBatches() {
		own := cloneBatch(batch)
		_, m, _ := plan.Next(small(), own)
		_, again, _ := plan.Next(small(), own)
		want := cloned(m)
		scrawl(m.Leaves, api.Seat{Who: -9, Slot: -9})
		if !slices.Equal(m.Joins, want.Joins) || !slices.Equal(m.Items, want.Items) {
			t.Fatalf("%v: the left seats are shared", batch)
		}
		scrawl(m.Joins, api.Seat{Who: -8, Slot: -8})
		if !slices.Equal(m.Items, want.Items) || slices.Contains(m.Leaves, api.Seat{Who: -8, Slot: -8}) {
			t.Fatalf("%v: the joined seats are shared", batch)
		}
		scrawl(m.Items, api.Item{Node: -7})
		if !sameRekey(again, want) || !slices.Equal(own.Leaves, batch.Leaves) || !slices.Equal(own.Joins, batch.Joins) {
			t.Fatalf("%v: %v, want %v", own, again, want)
		}
		scrawl(own.Leaves, 5)
		scrawl(own.Joins, 5)
		if _, later, _ := plan.Next(small(), batch); !sameRekey(again, want) || !sameRekey(later, want) {
			t.Fatalf("%v: %v and %v, want %v", batch, again, later, want)
		}
	}
}

func cloneBatch(batch api.Batch) api.Batch {
	return move(slices.Clone(batch.Leaves), slices.Clone(batch.Joins))
}

// R6: an answer hangs on nothing that was asked before it.
func TestNothingKept(t *testing.T) {
	tree := small()
	first := gone(t, tree, move([]int{1}, []int{9, 8}))
	for _, batch := range fullBatches()[:40] {
		plan.Next(full(3, 1), batch)
		plan.Next(full(200, 1), batch)
		plan.Next(api.Tree{}, batch)
		plan.Replaced([]api.Seat{{Slot: 5}, {Slot: 99}})
		again := gone(t, tree, move([]int{1}, []int{9, 8}))
		if again.next != first.next || !sameRekey(again.m, first.m) {
			t.Fatalf("%v, at first %v", again, first)
		}
	}
	if tree != small() {
		t.Errorf("the tree became %v", tree)
	}
}
