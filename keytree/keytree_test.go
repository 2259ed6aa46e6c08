package keytree_test

import (
	"math"
	"math/rand"
	"testing"

	"coterie/api"
	"coterie/keytree"
	"coterie/ratchet"
	"coterie/roster"
)

func k(base, step int) api.Key { return api.Key{Base: base, Step: step} }

// bare is a tree without a taken seat, with the keys {v + 1, step}.
func bare(epoch, fresh, step int) api.Tree {
	tree := api.Tree{Epoch: epoch, Fresh: fresh}
	for v := range tree.Keys {
		tree.Keys[v] = k(v+1, step)
	}
	return tree
}

// small is the chapter's T.
func small() api.Tree {
	tree := bare(1, 25, 1)
	for i := range 3 {
		tree.Roster[i] = api.Entry{Who: i + 1, Base: 22 + i, Since: 1}
	}
	return tree
}

// full has all 64 seats taken, the people 0 and 255 at the outmost ones, steps and Sinces of every kind up to the epoch, and room for names from 2000 on.
func full(epoch int) api.Tree {
	tree := api.Tree{Epoch: epoch, Fresh: 2000}
	for v := range tree.Keys {
		tree.Keys[v] = k(100+7*v, (v*11)%(epoch+1))
	}
	tree.Keys[0].Step, tree.Keys[20].Step = epoch, 0
	for s := range tree.Roster {
		tree.Roster[s] = api.Entry{Who: (s * 4) % 256, Base: 1000 + 5*s, Since: 1 + (s*13)%epoch}
	}
	tree.Roster[0].Since = epoch
	tree.Roster[63] = api.Entry{Who: 255, Base: 1999, Since: 1}
	return tree
}

// alone has one seat taken.
func alone(slot, who, base, since, epoch, fresh int) api.Tree {
	tree := bare(epoch, fresh, 0)
	tree.Roster[slot] = api.Entry{Who: who, Base: base, Since: since}
	return tree
}

// chanceTree is a right one with any names, steps, seats and people.
func chanceTree(chance *rand.Rand) api.Tree {
	epoch := chance.Intn(201)
	tree := api.Tree{Epoch: epoch}
	names := chance.Perm(32767)
	name := func() int {
		base := names[0] + 1
		names = names[1:]
		tree.Fresh = max(tree.Fresh, base+1)
		return base
	}
	for v := range tree.Keys {
		tree.Keys[v] = k(name(), chance.Intn(epoch+1))
	}
	people, share := chance.Perm(256), chance.Intn(65)
	for s := range tree.Roster {
		if epoch > 0 && chance.Intn(64) < share {
			tree.Roster[s] = api.Entry{Who: people[s], Base: name(), Since: 1 + chance.Intn(epoch)}
		}
	}
	tree.Fresh += chance.Intn(32768 - tree.Fresh + 1)
	return tree
}

// nodesAbove are the inner nodes on the paths of the seats, as a mask.
func nodesAbove(left []api.Seat) uint32 {
	var mask uint32
	for _, seat := range left {
		for v := 21 + seat.Slot; v > 0; {
			v = (v - 1) / 4
			mask |= 1 << v
		}
	}
	return mask
}

// stepped is the tree one epoch on, with somebody leaving and somebody joining.
func stepped(t *testing.T, chance *rand.Rand, tree api.Tree) api.Tree {
	t.Helper()
	var batch api.Batch
	for who := range 256 {
		on := roster.Find(tree.Roster, who) >= 0
		switch {
		case on && chance.Intn(8) == 0:
			batch.Leaves = append(batch.Leaves, who)
		case !on && chance.Intn(20) == 0 && len(batch.Joins) < 64-len(roster.People(tree.Roster)):
			batch.Joins = append(batch.Joins, who)
		}
	}
	_, left, _, e := roster.Move(tree.Roster, batch, tree.Epoch+1, 30000)
	if e != api.OK {
		t.Fatal(batch, e)
	}
	keys, fresh, e := ratchet.Turn(tree.Keys, nodesAbove(left), tree.Fresh)
	if e != api.OK {
		t.Fatal(batch, e)
	}
	behind, _, _, e := roster.Move(tree.Roster, batch, tree.Epoch+1, fresh)
	if e != api.OK {
		t.Fatal(batch, e)
	}
	return api.Tree{Epoch: tree.Epoch + 1, Fresh: fresh + len(batch.Joins), Keys: keys, Roster: behind}
}

// walked are the trees that a server has, from the beginning to the last epoch.
func walked(t *testing.T) []api.Tree {
	t.Helper()
	chance := rand.New(rand.NewSource(111))
	trees := []api.Tree{bare(0, 22, 0)}
	for range 200 {
		trees = append(trees, stepped(t, chance, trees[len(trees)-1]))
	}
	return trees
}

// edgeTrees are right, and each has a number that is just at its bound.
func edgeTrees() []api.Tree {
	list := []api.Tree{
		bare(0, 22, 0), bare(0, 23, 0), bare(0, 32768, 0), bare(1, 22, 1), bare(200, 22, 200), bare(200, 22, 0), bare(200, 32768, 200),
		small(), full(1), full(2), full(17), full(199), full(200),
	}
	for slot := range api.MaxMembers {
		list = append(list, alone(slot, 0, 22, 1, 1, 23), alone(slot, 255, 32767, 200, 200, 32768), alone(slot, slot, 32767, 1, 200, 32768))
	}
	for v := range api.Inner {
		last, fast, slow := bare(9, 32768, 3), bare(9, 22, 3), full(200)
		last.Keys[v].Base = 32767
		fast.Keys[v].Step = 9
		slow.Keys[v].Step = 0
		list = append(list, last, fast, slow)
	}
	tight := bare(9, 41, 3)
	tight.Keys[20].Base = 40
	return append(list, tight)
}

func rightTrees(t *testing.T) []api.Tree {
	t.Helper()
	list := append(edgeTrees(), walked(t)...)
	chance := rand.New(rand.NewSource(112))
	for range 60 {
		list = append(list, chanceTree(chance))
	}
	return list
}

// farNumbers are beyond every limit, and among them are those that would look like a number in bounds if a conversion cut them or a sum ran over.
func farNumbers() []int {
	return []int{
		-2, -21, -64, -85, -256, -256 + 1, -32768, -65536 + 22, -1 << 31, -1<<31 + 22, -1 << 32, -1<<32 + 1, math.MinInt, math.MinInt + 1, math.MinInt + 22,
		65535, 65536, 65536 + 1, 65536 + 22, 1<<31 - 1, 1 << 31, 1<<31 + 22, 1<<32 - 1, 1 << 32, 1<<32 + 1, 1<<32 + 22, 1 << 62,
		math.MaxInt - 85, math.MaxInt - 21, math.MaxInt - 1, math.MaxInt,
	}
}

func noNodes() []int { return append(farNumbers(), -1, 85, 86, 128, 255, 256, 256+21, 341) }

func noSlots() []int { return append(farNumbers(), -1, 64, 65, 84, 85, 128, 256) }

func nobody() []int { return append(farNumbers(), -1, 256, 257) }

// wrongEpochs spoil the tree by Epoch or Fresh alone.
func wrongEpochs(tree api.Tree) []api.Tree {
	var list []api.Tree
	for _, epoch := range append(farNumbers(), -1, 201, 202, 255, 256, 257) {
		wrong := tree
		wrong.Epoch = epoch
		list = append(list, wrong)
	}
	for _, fresh := range append(farNumbers(), -1, 0, 1, 20, 21, 32769, 32770) {
		wrong := tree
		wrong.Fresh = fresh
		list = append(list, wrong)
	}
	return list
}

// wrongKeys spoil the tree by one number of one key.
func wrongKeys(tree api.Tree) []api.Tree {
	var list []api.Tree
	for v := range tree.Keys {
		for _, base := range append(farNumbers(), -1, 0, 32768, tree.Fresh, tree.Fresh+1, tree.Keys[(v+1)%21].Base, tree.Keys[(v+20)%21].Base) {
			wrong := tree
			wrong.Keys[v].Base = base
			list = append(list, wrong)
		}
		for _, step := range append(farNumbers(), -1, 256, tree.Epoch+1, tree.Epoch+2, 255) {
			wrong := tree
			wrong.Keys[v].Step = step
			list = append(list, wrong)
		}
	}
	return list
}

// nextTaken is the entry of the next taken seat, round the end.
func nextTaken(r api.Roster, slot int) api.Entry {
	for away := 1; ; away++ {
		if entry := r[(slot+away)%64]; entry.Base != 0 {
			return entry
		}
	}
}

// wrongSeats spoil the tree by one number of one entry; those whose seat is free have something beside Base 0 then.
func wrongSeats(tree api.Tree) []api.Tree {
	var list []api.Tree
	spoil := func(slot int, entry api.Entry) {
		wrong := tree
		wrong.Roster[slot] = entry
		list = append(list, wrong)
	}
	for slot, entry := range tree.Roster {
		if entry.Base == 0 {
			spoil(slot, api.Entry{Who: 1})
			spoil(slot, api.Entry{Who: -1})
			spoil(slot, api.Entry{Since: 1})
			spoil(slot, api.Entry{Since: math.MinInt})
			continue
		}
		for _, base := range append(farNumbers(), -1, 0, 32768, tree.Fresh, tree.Fresh+1) {
			spoil(slot, api.Entry{Who: entry.Who, Base: base, Since: entry.Since})
		}
		for _, who := range nobody() {
			spoil(slot, api.Entry{Who: who, Base: entry.Base, Since: entry.Since})
		}
		for _, since := range append(farNumbers(), -1, 0, 201, tree.Epoch+1, tree.Epoch+2) {
			spoil(slot, api.Entry{Who: entry.Who, Base: entry.Base, Since: since})
		}
		for v := range tree.Keys {
			spoil(slot, api.Entry{Who: entry.Who, Base: tree.Keys[v].Base, Since: entry.Since})
		}
		other := nextTaken(tree.Roster, slot)
		spoil(slot, api.Entry{Who: other.Who, Base: entry.Base, Since: entry.Since})
		spoil(slot, api.Entry{Who: entry.Who, Base: other.Base, Since: entry.Since})
	}
	return list
}

// wrongTrees have each one wrong number.
func wrongTrees() []api.Tree {
	list := []api.Tree{{}, {Fresh: 22}, {Epoch: 1, Fresh: 22}}
	for _, tree := range []api.Tree{small(), full(17), full(200)} {
		list = append(list, wrongEpochs(tree)...)
		list = append(list, wrongKeys(tree)...)
		list = append(list, wrongSeats(tree)...)
	}
	short := small()
	short.Fresh = 24
	early := small()
	early.Epoch = 0
	seated := alone(0, 1, 22, 1, 0, 23)
	mixed := bare(200, 32768, 0)
	mixed.Roster[63] = api.Entry{Who: 5, Base: 21, Since: 200}
	return append(list, short, early, seated, mixed)
}

// modelCheck counts the names of keys and taken seats together.
func modelCheck(tree api.Tree) api.Errno {
	ok := tree.Epoch >= 0 && tree.Epoch <= 200 && tree.Fresh >= 22 && tree.Fresh <= 32768
	names, people, taken := map[int]int{}, map[int]int{}, 0
	for _, x := range tree.Keys {
		names[x.Base]++
		ok = ok && x.Step >= 0 && x.Step <= tree.Epoch
	}
	for _, entry := range tree.Roster {
		if entry == (api.Entry{}) {
			continue
		}
		taken++
		names[entry.Base]++
		people[entry.Who]++
		ok = ok && entry.Who >= 0 && entry.Who <= 255 && entry.Since >= 1 && entry.Since <= tree.Epoch
	}
	for name := range names {
		ok = ok && name > 0 && name < tree.Fresh
	}
	if !ok || len(names) != 21+taken || len(people) != taken {
		return api.ErrTree
	}
	return api.OK
}

// modelKey is the key of a node of a right tree.
func modelKey(tree api.Tree, v int) (api.Key, api.Errno) {
	switch {
	case v < 0 || v > 84:
		return api.Key{}, api.ErrNode
	case v <= 20:
		return tree.Keys[v], api.OK
	case tree.Roster[v-21].Base == 0:
		return api.Key{}, api.ErrNotOn
	}
	entry := tree.Roster[v-21]
	return k(entry.Base, tree.Epoch-entry.Since), api.OK
}

// modelPath climbs from the leaf.
func modelPath(tree api.Tree, slot int) (api.Path, api.Errno) {
	if slot < 0 || slot > 63 {
		return api.Path{}, api.ErrSlot
	}
	parent := (21 + slot - 1) / 4
	above := (parent - 1) / 4
	return api.Path{tree.Keys[parent], tree.Keys[above], tree.Keys[0]}, api.OK
}

// modelHeld goes down to the leaves.
func modelHeld(tree api.Tree, v int) bool {
	if v < 0 || v > 84 {
		return false
	}
	if v > 20 {
		return tree.Roster[v-21] != (api.Entry{})
	}
	held := false
	for i := range 4 {
		held = held || modelHeld(tree, 4*v+1+i)
	}
	return held
}

// modelStand is the state of who is on in a right tree.
func modelStand(tree api.Tree, who int) (api.Member, api.Errno) {
	for slot, entry := range tree.Roster {
		if entry.Base == 0 || entry.Who != who {
			continue
		}
		path, _ := modelPath(tree, slot)
		return api.Member{Who: who, Slot: slot, Epoch: tree.Epoch, Leaf: k(entry.Base, tree.Epoch-entry.Since), Path: path, Has: true}, api.OK
	}
	return api.Member{}, api.ErrNotOn
}

func wantCheck(t *testing.T, tree api.Tree, want api.Errno) {
	t.Helper()
	if got := keytree.Check(tree); got != want {
		t.Fatalf("Check(%v) = %d, want %d", tree, got, want)
	}
}

func wantKey(t *testing.T, tree api.Tree, v int, want api.Key, status api.Errno) {
	t.Helper()
	if got, e := keytree.KeyOf(tree, v); got != want || e != status {
		t.Fatalf("KeyOf(%v, %d) = %v, %d; want %v, %d", tree, v, got, e, want, status)
	}
}

func wantGroup(t *testing.T, tree api.Tree, want api.Key, status api.Errno) {
	t.Helper()
	if got, e := keytree.Group(tree); got != want || e != status {
		t.Fatalf("Group(%v) = %v, %d; want %v, %d", tree, got, e, want, status)
	}
}

func wantPath(t *testing.T, tree api.Tree, slot int, want api.Path, status api.Errno) {
	t.Helper()
	if got, e := keytree.PathOf(tree, slot); got != want || e != status {
		t.Fatalf("PathOf(%v, %d) = %v, %d; want %v, %d", tree, slot, got, e, want, status)
	}
}

func wantHeld(t *testing.T, tree api.Tree, v int, want bool) {
	t.Helper()
	if got := keytree.Held(tree, v); got != want {
		t.Fatalf("Held(%v, %d) = %v", tree, v, got)
	}
}

func wantCard(t *testing.T, tree api.Tree, who int, want api.Card, status api.Errno) {
	t.Helper()
	if got, e := keytree.Card(tree, who); got != want || e != status {
		t.Fatalf("Card(%v, %d) = %v, %d; want %v, %d", tree, who, got, e, want, status)
	}
}

func wantStand(t *testing.T, tree api.Tree, who int, want api.Member, status api.Errno) {
	t.Helper()
	if got, e := keytree.Stand(tree, who); got != want || e != status {
		t.Fatalf("Stand(%v, %d) = %v, %d; want %v, %d", tree, who, got, e, want, status)
	}
}

// wantRefused: R2: of a tree that isn't right every call says so ahead of all else, and answers zero beside it.
func wantRefused(t *testing.T, tree api.Tree, v, slot, who int) {
	t.Helper()
	wantKey(t, tree, v, api.Key{}, api.ErrTree)
	wantGroup(t, tree, api.Key{}, api.ErrTree)
	wantPath(t, tree, slot, api.Path{}, api.ErrTree)
	wantHeld(t, tree, v, false)
	wantCard(t, tree, who, api.Card{}, api.ErrTree)
	wantStand(t, tree, who, api.Member{}, api.ErrTree)
}

// P11.1: the tree at the beginning, number by number; it is right.
func TestStart(t *testing.T) {
	start := keytree.Start()
	if start.Epoch != 0 || start.Fresh != 22 || start.Roster != (api.Roster{}) {
		t.Errorf("epoch %d, fresh %d, roster %v", start.Epoch, start.Fresh, start.Roster)
	}
	for v, got := range start.Keys {
		if got != k(v+1, 0) {
			t.Errorf("node %d has %v", v, got)
		}
	}
	if start != bare(0, 22, 0) || modelCheck(start) != api.OK {
		t.Errorf("Start() = %v", start)
	}
	wantCheck(t, start, api.OK)
}

// P11.1: trees that are right: ordinary ones, at the bounds, and all that a server comes to.
func TestCheckRight(t *testing.T) {
	for _, tree := range rightTrees(t) {
		if modelCheck(tree) != api.OK {
			t.Fatalf("not right: %v", tree)
		}
		wantCheck(t, tree, api.OK)
	}
}

// P11.1: trees with one wrong number each.
func TestCheckWrong(t *testing.T) {
	for _, tree := range wrongTrees() {
		if modelCheck(tree) != api.ErrTree {
			t.Fatalf("right: %v", tree)
		}
		wantCheck(t, tree, api.ErrTree)
	}
}

// P11.1: the chapter's example 5.
func TestCheckExamples(t *testing.T) {
	tree := small()
	wantCheck(t, tree, api.OK)
	tree.Fresh = 24
	wantCheck(t, tree, api.ErrTree)
	tree = small()
	tree.Epoch = 0
	wantCheck(t, tree, api.ErrTree)
}

// P11.1: every epoch, around both ends, with and without seats.
func TestCheckEpochs(t *testing.T) {
	for epoch := -3; epoch <= 260; epoch++ {
		want, behind := api.ErrTree, api.ErrTree
		if epoch >= 0 && epoch <= 200 {
			want = api.OK
		}
		if epoch >= 5 && epoch <= 200 {
			behind = api.OK
		}
		wantCheck(t, bare(epoch, 22, 0), want)
		wantCheck(t, alone(7, 1, 22, 5, epoch, 23), behind)
		wantCheck(t, bare(epoch, 22, 5), behind)
	}
}

// P11.1: every Fresh near the bounds and near the names in use: a name just below it is one that was given.
func TestCheckFresh(t *testing.T) {
	for fresh := 18; fresh <= 60; fresh++ {
		want, behind := api.ErrTree, api.ErrTree
		if fresh >= 22 {
			want = api.OK
		}
		if fresh >= 41 {
			behind = api.OK
		}
		wantCheck(t, bare(3, fresh, 0), want)
		for _, slot := range []int{0, 1, 37, 63} {
			wantCheck(t, alone(slot, 1, 40, 1, 3, fresh), behind)
		}
		for v := range api.Inner {
			tree := bare(3, fresh, 0)
			tree.Keys[v].Base = 40
			wantCheck(t, tree, behind)
		}
	}
	for fresh := 32760; fresh <= 32780; fresh++ {
		want, last := api.ErrTree, api.ErrTree
		if fresh <= 32768 {
			want = api.OK
		}
		if fresh == 32768 {
			last = api.OK
		}
		wantCheck(t, bare(3, fresh, 0), want)
		wantCheck(t, alone(63, 1, 32767, 1, 3, fresh), last)
	}
}

// P11.1: a Step and a Since just the epoch, one below and one above, at every node and every slot.
func TestCheckSteps(t *testing.T) {
	for _, epoch := range []int{1, 2, 50, 199, 200} {
		for v := range api.Inner {
			tree := bare(epoch, 22, 0)
			tree.Keys[v].Step = epoch - 1
			wantCheck(t, tree, api.OK)
			tree.Keys[v].Step = epoch
			wantCheck(t, tree, api.OK)
			tree.Keys[v].Step = epoch + 1
			wantCheck(t, tree, api.ErrTree)
		}
		for slot := range api.MaxMembers {
			wantCheck(t, alone(slot, 1, 22, epoch, epoch, 23), api.OK)
			wantCheck(t, alone(slot, 1, 22, epoch+1, epoch, 23), api.ErrTree)
		}
	}
}

// P11.4: in a right tree no two nodes that have a key have keys of one Base.
func TestNoNameTwice(t *testing.T) {
	for _, tree := range rightTrees(t) {
		named := map[int]int{}
		for v := range api.Nodes {
			got, e := keytree.KeyOf(tree, v)
			if e == api.ErrNotOn {
				continue
			}
			if other, twice := named[got.Base]; twice || e != api.OK {
				t.Fatalf("the nodes %d and %d of %v: %v, %d", other, v, tree, got, e)
			}
			named[got.Base] = v
		}
	}
}

// setName gives the node's key a name.
func setName(tree *api.Tree, v, name int) {
	if v < api.Inner {
		tree.Keys[v].Base = name
		return
	}
	tree.Roster[v-21].Base = name
}

// P11.1, P11.4: a tree is not right if any two nodes have one name, whatever their steps.
func TestAnyNameTwice(t *testing.T) {
	for v := range api.Nodes {
		for w := range v {
			for _, name := range []int{50, 1, 1998} {
				tree := full(200)
				setName(&tree, v, name)
				wantCheck(t, tree, api.OK)
				setName(&tree, w, name)
				wantCheck(t, tree, api.ErrTree)
			}
		}
	}
}

// P11.2: the chapter's examples 1 and 2.
func TestKeyExamples(t *testing.T) {
	wantKey(t, small(), 0, k(1, 1), api.OK)
	wantGroup(t, small(), k(1, 1), api.OK)
	wantKey(t, small(), 5, k(6, 1), api.OK)
	wantKey(t, small(), 22, k(23, 0), api.OK)
	wantKey(t, small(), 24, api.Key{}, api.ErrNotOn)
	wantKey(t, small(), 85, api.Key{}, api.ErrNode)
	wantPath(t, small(), 63, api.Path{k(21, 1), k(5, 1), k(1, 1)}, api.OK)
	wantPath(t, small(), 64, api.Path{}, api.ErrSlot)
}

// P11.2: every node of every tree; the nodes 0, 20, 21 and 84 by hand.
func TestKeyOf(t *testing.T) {
	wantKey(t, full(200), 0, k(100, 200), api.OK)
	wantKey(t, full(200), 20, k(240, 0), api.OK)
	wantKey(t, full(200), 21, k(1000, 0), api.OK)
	wantKey(t, full(200), 84, k(1999, 199), api.OK)
	wantKey(t, keytree.Start(), 20, k(21, 0), api.OK)
	wantKey(t, keytree.Start(), 21, api.Key{}, api.ErrNotOn)
	wantKey(t, keytree.Start(), 84, api.Key{}, api.ErrNotOn)
	for _, tree := range rightTrees(t) {
		for v := -3; v <= 90; v++ {
			want, status := modelKey(tree, v)
			wantKey(t, tree, v, want, status)
		}
		wantGroup(t, tree, tree.Keys[0], api.OK)
	}
}

// P11.2: nodes that there aren't, taken seats or not.
func TestKeyOfNoNode(t *testing.T) {
	for _, v := range noNodes() {
		for _, tree := range []api.Tree{keytree.Start(), small(), full(200)} {
			wantKey(t, tree, v, api.Key{}, api.ErrNode)
		}
	}
}

// P11.2: every slot of every tree, taken or not; a path's keys are those of its nodes, and the root's key is its end.
func TestPathOf(t *testing.T) {
	for _, tree := range rightTrees(t) {
		group, _ := keytree.Group(tree)
		for slot := range api.MaxMembers {
			want, _ := modelPath(tree, slot)
			wantPath(t, tree, slot, want, api.OK)
			if want[2] != group {
				t.Fatalf("the path of slot %d ends with %v, the root has %v", slot, want[2], group)
			}
			v := 21 + slot
			for place := range want {
				v = (v - 1) / 4
				wantKey(t, tree, v, want[place], api.OK)
			}
		}
	}
}

// P11.2: slots that there aren't.
func TestPathOfNoSlot(t *testing.T) {
	for _, slot := range noSlots() {
		for _, tree := range []api.Tree{keytree.Start(), small(), full(200)} {
			wantPath(t, tree, slot, api.Path{}, api.ErrSlot)
		}
	}
}

// P11.3: the chapter's examples 3 and 4.
func TestStandExamples(t *testing.T) {
	for _, v := range []int{5, 1, 0, 21} {
		wantHeld(t, small(), v, true)
	}
	wantHeld(t, small(), 2, false)
	wantHeld(t, small(), 24, false)
	wantCard(t, small(), 2, api.Card{Who: 2, Slot: 1, Epoch: 1, Leaf: k(23, 0)}, api.OK)
	wantCard(t, small(), 4, api.Card{}, api.ErrNotOn)
	wantStand(t, small(), 2, api.Member{Who: 2, Slot: 1, Epoch: 1, Leaf: k(23, 0), Path: api.Path{k(6, 1), k(2, 1), k(1, 1)}, Has: true}, api.OK)
	wantStand(t, small(), 4, api.Member{}, api.ErrNotOn)
}

// P11.3: every node of every tree: an inner node is held just if one of its children is, a leaf just if it has a key.
func TestHeld(t *testing.T) {
	for _, tree := range rightTrees(t) {
		for v := range api.Nodes {
			wantHeld(t, tree, v, modelHeld(tree, v))
			if v > 20 {
				_, e := keytree.KeyOf(tree, v)
				wantHeld(t, tree, v, e == api.OK)
				continue
			}
			below := keytree.Held(tree, 4*v+1) || keytree.Held(tree, 4*v+2) || keytree.Held(tree, 4*v+3) || keytree.Held(tree, 4*v+4)
			wantHeld(t, tree, v, below)
		}
	}
}

// P11.3: with one seat just the four nodes from its leaf to the root are held; without one none is, with all of them every one.
func TestHeldAlone(t *testing.T) {
	for slot := range api.MaxMembers {
		tree := alone(slot, 0, 22, 1, 1, 23)
		leaf := 21 + slot
		parent := (leaf - 1) / 4
		for v := range api.Nodes {
			wantHeld(t, tree, v, v == leaf || v == parent || v == (parent-1)/4 || v == 0)
		}
	}
	for v := range api.Nodes {
		wantHeld(t, keytree.Start(), v, false)
		wantHeld(t, full(200), v, true)
	}
}

// P11.3: no node is held that there isn't.
func TestHeldNoNode(t *testing.T) {
	for _, v := range noNodes() {
		wantHeld(t, full(200), v, false)
		wantHeld(t, small(), v, false)
		wantHeld(t, keytree.Start(), v, false)
	}
}

// P11.3: everybody, at every tree: the card, and the state, which has the leaf's key and the path's keys and no more.
func TestCardAndStand(t *testing.T) {
	for _, tree := range rightTrees(t) {
		for who := -2; who <= 258; who++ {
			want, status := modelStand(tree, who)
			wantStand(t, tree, who, want, status)
			wantCard(t, tree, who, api.Card{Who: want.Who, Slot: want.Slot, Epoch: want.Epoch, Leaf: want.Leaf}, status)
		}
		for slot, entry := range tree.Roster {
			if entry.Base == 0 {
				continue
			}
			state, e := keytree.Stand(tree, entry.Who)
			if e != api.OK || state.Slot != slot || !state.Has || state.Out || state.Behind != 0 {
				t.Fatalf("%d stands as %v, %d", entry.Who, state, e)
			}
			wantKey(t, tree, 21+slot, state.Leaf, api.OK)
			wantPath(t, tree, slot, state.Path, api.OK)
		}
	}
}

// P11.3: the people 0 and 255 at the slots 0 and 63, by hand; a free seat's entry, whose Who is 0, is nobody's.
func TestOutmostPeople(t *testing.T) {
	tree := alone(0, 0, 22, 3, 200, 32768)
	wantCard(t, tree, 255, api.Card{}, api.ErrNotOn)
	tree.Roster[63] = api.Entry{Who: 255, Base: 32767, Since: 200}
	wantCard(t, tree, 0, api.Card{Who: 0, Slot: 0, Epoch: 200, Leaf: k(22, 197)}, api.OK)
	wantCard(t, tree, 255, api.Card{Who: 255, Slot: 63, Epoch: 200, Leaf: k(32767, 0)}, api.OK)
	wantStand(t, tree, 0, api.Member{Who: 0, Slot: 0, Epoch: 200, Leaf: k(22, 197), Path: api.Path{k(6, 0), k(2, 0), k(1, 0)}, Has: true}, api.OK)
	wantStand(t, tree, 255, api.Member{Who: 255, Slot: 63, Epoch: 200, Leaf: k(32767, 0), Path: api.Path{k(21, 0), k(5, 0), k(1, 0)}, Has: true}, api.OK)
	tree.Roster[0] = api.Entry{}
	wantCard(t, tree, 0, api.Card{}, api.ErrNotOn)
	wantStand(t, tree, 0, api.Member{}, api.ErrNotOn)
	wantCard(t, keytree.Start(), 0, api.Card{}, api.ErrNotOn)
	wantStand(t, keytree.Start(), 0, api.Member{}, api.ErrNotOn)
}

// P11.3: numbers that nobody has aren't on.
func TestNobody(t *testing.T) {
	for _, who := range nobody() {
		for _, tree := range []api.Tree{keytree.Start(), small(), full(200)} {
			wantCard(t, tree, who, api.Card{}, api.ErrNotOn)
			wantStand(t, tree, who, api.Member{}, api.ErrNotOn)
		}
	}
}

// P11.2, P11.3: a tree that isn't right is told ahead of a wrong node, slot or person, and no node of it is held.
func TestWrongTreeFirst(t *testing.T) {
	for _, tree := range wrongTrees() {
		wantRefused(t, tree, 0, 0, 1)
		wantRefused(t, tree, 21, 1, 2)
		wantRefused(t, tree, 84, 63, 255)
		wantRefused(t, tree, 85, 64, 256)
		wantRefused(t, tree, -1, -1, -1)
	}
	short := small()
	short.Fresh = 24
	for _, far := range farNumbers() {
		wantRefused(t, short, far, far, far)
	}
	for v := range api.Nodes {
		wantHeld(t, short, v, false)
	}
}

// P1: whatever is handed in is answered, and as the model does.
func TestAnything(t *testing.T) {
	chance := rand.New(rand.NewSource(113))
	numbers := append(farNumbers(), -1, 0, 1, 2, 20, 21, 22, 63, 64, 84, 85, 200, 201, 255, 256, 32767, 32768)
	pick := func() int { return numbers[chance.Intn(len(numbers))] }
	count := map[api.Errno]int{}
	for range 3000 {
		tree := full(200)
		if chance.Intn(10) == 0 {
			tree = api.Tree{}
		}
		for range chance.Intn(3) {
			switch v, slot := chance.Intn(21), chance.Intn(64); chance.Intn(7) {
			case 0:
				tree.Epoch = pick()
			case 1:
				tree.Fresh = pick()
			case 2:
				tree.Keys[v].Base = pick()
			case 3:
				tree.Keys[v].Step = pick()
			case 4:
				tree.Roster[slot] = api.Entry{Who: pick(), Base: pick(), Since: pick()}
			case 5:
				tree.Roster[slot].Since = pick()
			case 6:
				tree.Roster[slot] = api.Entry{}
			}
		}
		want := modelCheck(tree)
		count[want]++
		wantCheck(t, tree, want)
		v, slot, who := pick(), pick(), pick()
		if want != api.OK {
			wantRefused(t, tree, v, slot, who)
			continue
		}
		own, status := modelKey(tree, v)
		wantKey(t, tree, v, own, status)
		path, status := modelPath(tree, slot)
		wantPath(t, tree, slot, path, status)
		wantHeld(t, tree, v, modelHeld(tree, v))
		state, status := modelStand(tree, who)
		wantStand(t, tree, who, state, status)
	}
	if count[api.OK] < 300 || count[api.ErrTree] < 300 {
		t.Errorf("the answers came so often: %v", count)
	}
}

// R5, R6: what is handed in stays, what was answered too, and an answer hangs on nothing that was asked before it.
func TestAnswersStay(t *testing.T) {
	tree, start := small(), keytree.Start()
	first, _ := keytree.Stand(tree, 2)
	spoilt := keytree.Start()
	spoilt.Keys[0] = api.Key{}
	spoilt.Roster[0].Who = 9
	for _, other := range append(wrongTrees()[:200], edgeTrees()...) {
		keytree.Check(other)
		keytree.KeyOf(other, 21)
		keytree.Held(other, 0)
		keytree.Stand(other, 2)
		wantCheck(t, tree, api.OK)
		wantStand(t, tree, 2, first, api.OK)
	}
	if tree != small() || start != keytree.Start() || start != bare(0, 22, 0) {
		t.Errorf("they became %v, %v", tree, start)
	}
}
