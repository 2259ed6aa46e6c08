package ratchet_test

import (
	"math"
	"math/bits"
	"math/rand"
	"testing"

	"coterie/api"
	"coterie/key"
	"coterie/ratchet"
)

const every = 1<<21 - 1

func k(base, step int) api.Key { return api.Key{Base: base, Step: step} }

// keysAt is the chapter's K, at any step.
func keysAt(step int) api.Keys {
	var keys api.Keys
	for v := range keys {
		keys[v] = k(v+1, step)
	}
	return keys
}

// spread are keys with names far from one another, the first and the last name among them.
func spread(step int) api.Keys {
	var keys api.Keys
	for v := range keys {
		keys[v] = k(1+v*1638, step)
	}
	keys[20].Base = 32767
	return keys
}

// chanceKeys are right ones with any names, and with steps up to one.
func chanceKeys(chance *rand.Rand, most int) api.Keys {
	var keys api.Keys
	taken := map[int]bool{}
	for v := range keys {
		base := 1 + chance.Intn(32767)
		for taken[base] {
			base = 1 + chance.Intn(32767)
		}
		taken[base] = true
		keys[v] = k(base, chance.Intn(most+1))
	}
	return keys
}

// rightKeys are ordinary ones, and those with the outmost names and steps.
func rightKeys() []api.Keys {
	var list []api.Keys
	for _, step := range []int{0, 1, 3, 128, 254, 255} {
		list = append(list, keysAt(step), spread(step))
	}
	for v := range api.Inner {
		low, high, slow, fast := spread(3), keysAt(3), keysAt(9), keysAt(9)
		low[0], low[v] = low[v], low[0]
		high[v].Base = 32767
		slow[v].Step, fast[v].Step = 0, 255
		list = append(list, low, high, slow, fast)
	}
	chance := rand.New(rand.NewSource(101))
	for range 100 {
		list = append(list, chanceKeys(chance, 255), chanceKeys(chance, 20))
	}
	return list
}

// farNumbers are no names, no steps and no epochs, and among them are those that would look like one if a conversion cut them or a sum ran over.
func farNumbers() []int {
	return []int{
		-1, -2, -7, -200, -255, -256, -256 + 5, -32768, -65536 + 40, -1 << 31, -1<<31 + 40, -1 << 32, -1<<32 + 40, math.MinInt, math.MinInt + 1, math.MinInt + 40,
		32768, 32769, 32768 + 40, 65535, 65536, 65536 + 40, 1<<31 - 1, 1 << 31, 1<<31 + 40, 1<<32 - 1, 1 << 32, 1<<32 + 1, 1<<32 + 40, 1 << 62,
		math.MaxInt - 255, math.MaxInt - 22, math.MaxInt - 21, math.MaxInt - 20, math.MaxInt - 1, math.MaxInt,
	}
}

func farSteps() []int { return append(farNumbers(), 256, 257, 256+3, 511, 512) }

// wrongKeys have each one wrong number at one node, or one name at two nodes.
func wrongKeys() []api.Keys {
	list := []api.Keys{{}}
	for v := range api.Inner {
		for _, base := range append(farNumbers(), 0) {
			keys := keysAt(3)
			keys[v].Base = base
			list = append(list, keys)
		}
		for _, step := range farSteps() {
			keys := keysAt(3)
			keys[v].Step = step
			list = append(list, keys)
		}
		for w := range v {
			for _, step := range []int{0, 3, 4, 255} {
				keys := spread(3)
				keys[v] = k(keys[w].Base, step)
				list = append(list, keys)
			}
		}
	}
	return list
}

// modelCheck counts the names, instead of comparing keys.
func modelCheck(keys api.Keys) api.Errno {
	count := map[int]int{}
	for _, x := range keys {
		count[x.Base]++
		if x.Base <= 0 || x.Base > 32767 || x.Step <= -1 || x.Step > 255 {
			return api.ErrTree
		}
	}
	if len(count) != 21 {
		return api.ErrTree
	}
	return api.OK
}

// turned is what Turn answers.
type turned struct {
	keys api.Keys
	next int
	e    api.Errno
}

func turn(keys api.Keys, replaced uint32, fresh int) turned {
	next, n, e := ratchet.Turn(keys, replaced, fresh)
	return turned{next, n, e}
}

// nodesOf are the mask's bits, from the greatest down, those beyond the nodes too.
func nodesOf(mask uint32) []int {
	var nodes []int
	for bit := 31; bit >= 0; bit-- {
		if mask&(1<<bit) != 0 {
			nodes = append(nodes, bit)
		}
	}
	return nodes
}

// modelTurn advances everything, as far as it can, and lays the fresh keys over it.
func modelTurn(keys api.Keys, replaced uint32, fresh int) turned {
	if modelCheck(keys) != api.OK {
		return turned{e: api.ErrTree}
	}
	nodes := nodesOf(replaced)
	if len(nodes) > 0 && nodes[0] > 20 {
		return turned{e: api.ErrNode}
	}
	names := map[int]bool{}
	for _, x := range keys {
		names[x.Base] = true
	}
	for i := range nodes {
		if name := fresh + i; name < 1 || name > 32767 || names[name] {
			return turned{e: api.ErrKey}
		}
	}
	for v := range keys {
		keys[v].Step++
	}
	for i, v := range nodes {
		keys[v] = k(fresh+i, 0)
	}
	for _, x := range keys {
		if x.Step > 255 {
			return turned{e: api.ErrStep}
		}
	}
	return turned{keys, fresh + len(nodes), api.OK}
}

func wantCheck(t *testing.T, keys api.Keys, want api.Errno) {
	t.Helper()
	if got := ratchet.Check(keys); got != want {
		t.Fatalf("Check(%v) = %d, want %d", keys, got, want)
	}
}

func wantTurn(t *testing.T, keys api.Keys, replaced uint32, fresh int, want turned) {
	t.Helper()
	if got := turn(keys, replaced, fresh); got != want {
		t.Fatalf("Turn(%v, %b, %d)\n= %v\nwant %v", keys, replaced, fresh, got, want)
	}
	if want.e == api.OK {
		wantCheck(t, want.keys, api.OK)
	}
}

// wantRefused: R2: beside the error the keys and the number are zero.
func wantRefused(t *testing.T, keys api.Keys, replaced uint32, fresh int, want api.Errno) {
	t.Helper()
	wantTurn(t, keys, replaced, fresh, turned{e: want})
}

// someMasks are all of at most two nodes, all but one, all, and many others.
func someMasks() []uint32 {
	list := []uint32{0, every, 1<<20 | 1<<4 | 1, 0x155555, 0x0aaaaa}
	for v := range api.Inner {
		list = append(list, 1<<v, every&^(1<<v))
		for w := range v {
			list = append(list, 1<<v|1<<w)
		}
	}
	chance := rand.New(rand.NewSource(102))
	for range 400 {
		list = append(list, chance.Uint32()&every)
	}
	return list
}

// P10.1: keys that are right.
func TestCheckRight(t *testing.T) {
	for _, keys := range rightKeys() {
		wantCheck(t, keys, api.OK)
	}
}

// P10.1: keys with one wrong number, or one name twice, at every node.
func TestCheckWrong(t *testing.T) {
	for _, keys := range wrongKeys() {
		wantCheck(t, keys, api.ErrTree)
	}
}

// P10.1: each number of one key, through its edges.
func TestCheckEdges(t *testing.T) {
	for v := range api.Inner {
		for base := -2; base <= 32770; base += 1 + base/100*37 {
			keys := keysAt(3)
			keys[v].Base = base
			wantCheck(t, keys, modelCheck(keys))
		}
		for base, want := range map[int]api.Errno{0: api.ErrTree, 1000: api.OK, 32766: api.OK, 32767: api.OK, 32768: api.ErrTree, 65535: api.ErrTree} {
			keys := keysAt(3)
			keys[v].Base = base
			wantCheck(t, keys, want)
		}
		for step := -2; step <= 258; step++ {
			keys := keysAt(3)
			keys[v].Step = step
			want := api.ErrTree
			if step >= 0 && step <= 255 {
				want = api.OK
			}
			wantCheck(t, keys, want)
		}
	}
}

// P10.1: keys of any numbers.
func TestCheckAny(t *testing.T) {
	chance := rand.New(rand.NewSource(103))
	count := map[api.Errno]int{}
	for range 20000 {
		keys := chanceKeys(chance, 255)
		for range chance.Intn(3) {
			v, w := chance.Intn(21), chance.Intn(21)
			switch chance.Intn(4) {
			case 0:
				keys[v].Base = keys[w].Base
			case 1:
				keys[v].Base = farNumbers()[chance.Intn(len(farNumbers()))]
			case 2:
				keys[v].Step = farSteps()[chance.Intn(len(farSteps()))]
			case 3:
				keys[v].Step = keys[w].Step
			}
		}
		want := modelCheck(keys)
		count[want]++
		wantCheck(t, keys, want)
	}
	if count[api.OK] < 1000 || count[api.ErrTree] < 1000 {
		t.Errorf("the answers came so often: %v", count)
	}
}

// P10.1: the chapter's examples.
func TestTurnExamples(t *testing.T) {
	wantTurn(t, keysAt(3), 0, -7, turned{keysAt(4), -7, api.OK})
	want := keysAt(4)
	want[20], want[4], want[0] = k(40, 0), k(41, 0), k(42, 0)
	wantTurn(t, keysAt(3), 1<<20|1<<4|1, 40, turned{want, 43, api.OK})
	wantRefused(t, keysAt(3), 1<<21, 40, api.ErrNode)
	wantRefused(t, keysAt(3), 1, 21, api.ErrKey)
	wantRefused(t, keysAt(3), 1, 32768, api.ErrKey)
	want = keysAt(4)
	want[0] = k(32767, 0)
	wantTurn(t, keysAt(3), 1, 32767, turned{want, 32768, api.OK})
}

// P10.1: without a bit any fresh is answered as it is, those that are in use too.
func TestTurnWithoutReplaced(t *testing.T) {
	for _, fresh := range append(farNumbers(), 0, 1, 2, 21, 22, 40, 32766, 32767) {
		for _, step := range []int{0, 3, 253, 254} {
			wantTurn(t, keysAt(step), 0, fresh, turned{keysAt(step + 1), fresh, api.OK})
			wantTurn(t, spread(step), 0, fresh, turned{spread(step + 1), fresh, api.OK})
		}
		wantRefused(t, keysAt(255), 0, fresh, api.ErrStep)
	}
}

// P10.1: every bit: no key is advanced, whatever its step.
func TestTurnAllReplaced(t *testing.T) {
	for _, fresh := range []int{22, 40, 32768 - 21} {
		var want api.Keys
		for v := range want {
			want[v] = k(fresh+20-v, 0)
		}
		for _, step := range []int{0, 3, 254, 255} {
			wantTurn(t, keysAt(step), every, fresh, turned{want, fresh + 21, api.OK})
		}
	}
	wantRefused(t, keysAt(3), every, 21, api.ErrKey)
	wantRefused(t, keysAt(3), every, 32768-20, api.ErrKey)
}

// P10.1: each node alone, the first and the last among them.
func TestTurnOneReplaced(t *testing.T) {
	for v := range api.Inner {
		for _, step := range []int{0, 3, 254} {
			want := keysAt(step + 1)
			want[v] = k(40, 0)
			wantTurn(t, keysAt(step), 1<<v, 40, turned{want, 41, api.OK})
		}
	}
}

// P10.1: a bit beyond the nodes is told ahead of a wrong name and of a step that is spent, and behind wrong keys.
func TestTurnNoNode(t *testing.T) {
	for bit := 21; bit < 32; bit++ {
		for _, more := range []uint32{0, 1, 1 << 20, every, 1 << 31, 1 << 21} {
			mask := uint32(1)<<bit | more
			for _, fresh := range []int{40, 0, 5, 32768, math.MinInt, math.MaxInt} {
				wantRefused(t, keysAt(3), mask, fresh, api.ErrNode)
				wantRefused(t, keysAt(255), mask, fresh, api.ErrNode)
				wantRefused(t, api.Keys{}, mask, fresh, api.ErrTree)
			}
		}
	}
	wantRefused(t, keysAt(3), math.MaxUint32, 40, api.ErrNode)
	wantRefused(t, keysAt(3), ^uint32(every), 40, api.ErrNode)
}

// P10.1: keys that aren't right are told ahead of all else.
func TestTurnWrongKeys(t *testing.T) {
	for _, keys := range wrongKeys() {
		wantRefused(t, keys, 0, 40, api.ErrTree)
		wantRefused(t, keys, every, 40, api.ErrTree)
		wantRefused(t, keys, 1<<21, 40, api.ErrTree)
		wantRefused(t, keys, 1, 0, api.ErrTree)
	}
}

// lowMask has so many nodes, every other one if there are few.
func lowMask(n int) uint32 {
	if n <= 10 {
		return 0x0aaaaa & (1<<(2*n) - 1)
	}
	return 1<<n - 1
}

// P10.1: fresh below 1, and fresh and the number of bits together just OwnBase and one above.
func TestTurnFreshEdges(t *testing.T) {
	keys := spread(3)
	for v := range keys {
		keys[v].Base = 1000 + v
	}
	for n := 1; n <= 21; n++ {
		mask := lowMask(n)
		if bits.OnesCount32(mask) != n {
			t.Fatalf("%b hasn't %d nodes", mask, n)
		}
		for _, fresh := range append(farNumbers(), 0, 32768-n+1, 32767+1, 1-n) {
			wantRefused(t, keys, mask, fresh, api.ErrKey)
		}
		for _, fresh := range []int{1, 2, 32768 - n - 1, 32768 - n} {
			want := modelTurn(keys, mask, fresh)
			if want.e != api.OK || want.next != fresh+n {
				t.Fatal(want)
			}
			wantTurn(t, keys, mask, fresh, want)
		}
	}
}

// P10.1: a name in use, as the first, a middle or the last one that is given, of a node that stays or goes.
func TestTurnNameInUse(t *testing.T) {
	for v := range api.Inner {
		for _, used := range []int{1, 2, 500, 32000, 32766, 32767} {
			var keys api.Keys
			for w := range keys {
				keys[w] = k(10000+w, 3)
			}
			keys[v].Base = used
			for n := 1; n <= 5; n++ {
				for _, mask := range []uint32{lowMask(n), lowMask(n) << 10, every &^ (1<<(21-n) - 1)} {
					for fresh := used - n - 1; fresh <= used+2; fresh++ {
						if fresh < 1 || fresh+n > 32768 || fresh <= used && used < fresh+n {
							wantRefused(t, keys, mask, fresh, api.ErrKey)
							continue
						}
						want := modelTurn(keys, mask, fresh)
						if want.e != api.OK {
							t.Fatal(want)
						}
						wantTurn(t, keys, mask, fresh, want)
					}
				}
			}
		}
		wantRefused(t, keysAt(3), 1<<v, v+1, api.ErrKey)
		wantRefused(t, keysAt(255), 1<<v, v+1, api.ErrKey)
	}
}

// P10.1: a node that isn't replaced is at its last step, beside replaced ones that are; a wrong name is told ahead of it.
func TestTurnStep(t *testing.T) {
	for _, mask := range someMasks() {
		last := keysAt(3)
		for _, v := range nodesOf(mask) {
			last[v].Step = 255
		}
		want := modelTurn(last, mask, 40)
		if want.e != api.OK {
			t.Fatal(want)
		}
		wantTurn(t, last, mask, 40, want)
		for v := range api.Inner {
			spent := last
			spent[v].Step = 255
			if mask>>v&1 == 1 {
				wantTurn(t, spent, mask, 40, want)
				continue
			}
			wantRefused(t, spent, mask, 40, api.ErrStep)
			if mask != 0 {
				wantRefused(t, spent, mask, 5, api.ErrKey)
				wantRefused(t, spent, mask, 0, api.ErrKey)
				wantRefused(t, spent, mask, 32768, api.ErrKey)
			}
			spent[v].Step = 254
			if got := turn(spent, mask, 40); got.e != api.OK || got.keys[v] != k(v+1, 255) {
				t.Fatalf("node %d of %v, %b: %v", v, spent, mask, got)
			}
		}
	}
}

// P10.1: any keys, nodes and names, held against the model.
func TestTurnAny(t *testing.T) {
	chance := rand.New(rand.NewSource(104))
	count := map[api.Errno]int{}
	for range 30000 {
		keys := chanceKeys(chance, 3+chance.Intn(253))
		if chance.Intn(8) == 0 {
			keys[chance.Intn(21)].Base = keys[chance.Intn(21)].Base
		}
		if chance.Intn(4) == 0 {
			keys[chance.Intn(21)].Step = 255
		}
		mask := chance.Uint32() & chance.Uint32() & every
		if chance.Intn(8) == 0 {
			mask |= 1 << (21 + chance.Intn(11))
		}
		fresh := 1 + chance.Intn(32767)
		switch chance.Intn(6) {
		case 0:
			fresh = keys[chance.Intn(21)].Base + 1 - chance.Intn(10)
		case 1:
			fresh = farNumbers()[chance.Intn(len(farNumbers()))]
		}
		want := modelTurn(keys, mask, fresh)
		count[want.e]++
		wantTurn(t, keys, mask, fresh, want)
	}
	for _, e := range []api.Errno{api.OK, api.ErrTree, api.ErrNode, api.ErrKey, api.ErrStep} {
		if count[e] < 500 {
			t.Errorf("the error %d came %d times", e, count[e])
		}
	}
}

// eachTurn goes through many turns that are answered with OK.
func eachTurn(t *testing.T, look func(old, now api.Keys, replaced uint32)) {
	t.Helper()
	chance := rand.New(rand.NewSource(105))
	for _, mask := range someMasks() {
		// Names just below and just above the given ones, and steps at both ends.
		for _, fresh := range []int{22, 40, 32768 - bits.OnesCount32(mask)} {
			for _, old := range []api.Keys{keysAt(0), keysAt(3), keysAt(254)} {
				got := turn(old, mask, fresh)
				if got.e != api.OK {
					t.Fatalf("Turn(%v, %b, %d): %d", old, mask, fresh, got.e)
				}
				look(old, got.keys, mask)
			}
		}
		old := chanceKeys(chance, 254)
		if got := turn(old, mask, 1+chance.Intn(32000)); got.e == api.OK {
			look(old, got.keys, mask)
		}
	}
}

// P10.3: an advanced node's old key gives its new one, and no new key gives an old one; a replaced node's new key is given by no old key, and gives none.
func TestOneWay(t *testing.T) {
	eachTurn(t, func(old, now api.Keys, replaced uint32) {
		for v := range now {
			isReplaced := replaced>>v&1 == 1
			if key.Gives(old[v], now[v]) == isReplaced {
				t.Fatalf("node %d, replaced %v: %v became %v", v, isReplaced, old[v], now[v])
			}
			for w := range old {
				if key.Gives(now[v], old[w]) {
					t.Fatalf("the new key %v of node %d gives the old one %v of node %d", now[v], v, old[w], w)
				}
				if isReplaced && key.Gives(old[w], now[v]) {
					t.Fatalf("the old key %v of node %d gives the fresh one %v of node %d", old[w], w, now[v], v)
				}
			}
		}
	})
}

// P10.5: of two replaced nodes the one of greater number has the smaller name.
func TestGreaterNodeSmallerName(t *testing.T) {
	eachTurn(t, func(old, now api.Keys, replaced uint32) {
		nodes := nodesOf(replaced)
		for i, v := range nodes {
			for _, w := range nodes[i+1:] {
				if now[v].Base >= now[w].Base || v <= w {
					t.Fatalf("replaced %b: node %d has %v, node %d has %v", replaced, v, now[v], w, now[w])
				}
			}
		}
	})
}

// P10.4: n turns without replaced nodes advance each key by n, and a path followed by n is the same nodes' path behind them.
func TestTurnsAndFollow(t *testing.T) {
	paths := [][3]int{{5, 1, 0}, {20, 4, 0}, {14, 3, 0}, {0, 0, 0}, {20, 20, 1}, {7, 8, 9}}
	pathOf := func(keys api.Keys, nodes [3]int) api.Path {
		return api.Path{keys[nodes[0]], keys[nodes[1]], keys[nodes[2]]}
	}
	for _, first := range rightKeys() {
		greatest := 0
		for _, x := range first {
			greatest = max(greatest, x.Step)
		}
		now := first
		for n := 0; n <= 255-greatest; n++ {
			for v := range now {
				if now[v] != k(first[v].Base, first[v].Step+n) {
					t.Fatalf("%d turns made %v of %v", n, now[v], first[v])
				}
			}
			for _, nodes := range paths {
				wantFollow(t, pathOf(first, nodes), n, pathOf(now, nodes), api.OK)
			}
			got := turn(now, 0, n-7)
			if n == 255-greatest {
				wantRefused(t, now, 0, n-7, api.ErrStep)
				break
			}
			if got.e != api.OK || got.next != n-7 {
				t.Fatalf("turn %d of %v: %d, %d", n, first, got.next, got.e)
			}
			now = got.keys
		}
	}
}

// P10.1, P10.4: many turns behind one another, with names in turn: each key is its last fresh name and the turns since.
func TestManyTurns(t *testing.T) {
	chance := rand.New(rand.NewSource(106))
	keys, want, fresh := keysAt(0), keysAt(0), 22
	for epoch := 1; epoch <= 200; epoch++ {
		mask := chance.Uint32() & chance.Uint32() & every
		for v := range want {
			want[v].Step++
		}
		for _, v := range nodesOf(mask) {
			want[v] = k(fresh, 0)
			fresh++
		}
		got := turn(keys, mask, fresh-bits.OnesCount32(mask))
		if got != (turned{want, fresh, api.OK}) {
			t.Fatalf("epoch %d: %v, want %v", epoch, got, want)
		}
		keys = got.keys
		wantCheck(t, keys, api.OK)
	}
}

func wantLeaf(t *testing.T, entry api.Entry, epoch int, want api.Key, status api.Errno) {
	t.Helper()
	if got, e := ratchet.LeafAt(entry, epoch); got != want || e != status {
		t.Fatalf("LeafAt(%v, %d) = %v, %d; want %v, %d", entry, epoch, got, e, want, status)
	}
}

func wantNoLeaf(t *testing.T, entry api.Entry, epoch int, status api.Errno) {
	t.Helper()
	wantLeaf(t, entry, epoch, api.Key{}, status)
}

// P10.2: the chapter's examples of LeafAt.
func TestLeafExamples(t *testing.T) {
	entry := api.Entry{Who: 1, Base: 22, Since: 5}
	wantLeaf(t, entry, 5, k(22, 0), api.OK)
	wantLeaf(t, entry, 9, k(22, 4), api.OK)
	wantNoLeaf(t, entry, 4, api.ErrOld)
	wantNoLeaf(t, entry, 261, api.ErrStep)
	wantNoLeaf(t, api.Entry{}, 5, api.ErrNotOn)
	wantNoLeaf(t, api.Entry{Who: 1, Base: 22}, 5, api.ErrTree)
}

// P10.2: every epoch around the first and the last one that an entry has a key at, at the edges of Base and Since.
func TestLeafEpochs(t *testing.T) {
	for _, base := range []int{1, 2, 22, 300, 32766, 32767} {
		for since := 1; since <= 200; since++ {
			entry := api.Entry{Who: since, Base: base, Since: since}
			for epoch := -2; epoch <= since+258; epoch++ {
				switch {
				case epoch < since:
					wantNoLeaf(t, entry, epoch, api.ErrOld)
				case epoch > since+255:
					wantNoLeaf(t, entry, epoch, api.ErrStep)
				default:
					wantLeaf(t, entry, epoch, k(base, epoch-since), api.OK)
				}
			}
			for _, epoch := range farNumbers() {
				if epoch < 0 {
					wantNoLeaf(t, entry, epoch, api.ErrOld)
				} else {
					wantNoLeaf(t, entry, epoch, api.ErrStep)
				}
			}
		}
	}
}

func anyEpochs() []int { return append(farNumbers(), 0, 1, 5, 200, 201, 255, 256, 455, 456) }

// P10.2: a free seat is told ahead of all else, whatever stands in it; then an entry that isn't right.
func TestLeafWrong(t *testing.T) {
	for _, epoch := range anyEpochs() {
		for _, since := range append(farNumbers(), 0, 1, 5, 200, 201, 256) {
			for _, who := range []int{0, 1, -1, 256, math.MinInt} {
				wantNoLeaf(t, api.Entry{Who: who, Since: since}, epoch, api.ErrNotOn)
			}
			for _, base := range farNumbers() {
				wantNoLeaf(t, api.Entry{Who: 1, Base: base, Since: since}, epoch, api.ErrTree)
			}
		}
		for _, since := range append(farNumbers(), 0, 201, 202, 255, 256, 257, 456) {
			for _, base := range []int{1, 22, 32767} {
				wantNoLeaf(t, api.Entry{Who: 1, Base: base, Since: since}, epoch, api.ErrTree)
			}
		}
	}
}

// P10.2: who sits there isn't looked at.
func TestLeafOfAnybody(t *testing.T) {
	for _, who := range append(farNumbers(), 0, 1, 255, 256) {
		wantLeaf(t, api.Entry{Who: who, Base: 22, Since: 5}, 9, k(22, 4), api.OK)
		wantNoLeaf(t, api.Entry{Who: who, Base: 22, Since: 5}, 4, api.ErrOld)
	}
}

func wantFollow(t *testing.T, path api.Path, n int, want api.Path, status api.Errno) {
	t.Helper()
	if got, e := ratchet.Follow(path, n); got != want || e != status {
		t.Fatalf("Follow(%v, %d) = %v, %d; want %v, %d", path, n, got, e, want, status)
	}
}

func wantNoPath(t *testing.T, path api.Path, n int, status api.Errno) {
	t.Helper()
	wantFollow(t, path, n, api.Path{}, status)
}

// P10.2: the chapter's example of Follow.
func TestFollowExample(t *testing.T) {
	wantFollow(t, api.Path{k(7, 3), k(2, 0), k(1, 9)}, 2, api.Path{k(7, 5), k(2, 2), k(1, 11)}, api.OK)
}

// goodPaths have ordinary keys, the adversary's names, one name several times, and the greatest step at each place.
func goodPaths() []api.Path {
	return []api.Path{
		{k(7, 3), k(2, 0), k(1, 9)},
		{k(7, 9), k(2, 3), k(1, 0)},
		{k(7, 0), k(2, 9), k(1, 3)},
		{k(1, 0), k(1, 0), k(1, 0)},
		{k(5, 4), k(5, 200), k(6, 4)},
		{k(65535, 0), k(32768, 1), k(32767, 2)},
		{k(40000, 255), k(1, 0), k(2, 0)},
		{k(1, 0), k(65535, 255), k(2, 0)},
		{k(1, 0), k(2, 254), k(65535, 255)},
		{k(9, 255), k(8, 255), k(7, 255)},
		{k(9, 254), k(8, 254), k(7, 254)},
	}
}

// P10.2: n 0, each n till one step is just MaxStep, those above, below 0, and great ones.
func TestFollow(t *testing.T) {
	for _, path := range goodPaths() {
		greatest := max(path[0].Step, path[1].Step, path[2].Step)
		wantFollow(t, path, 0, path, api.OK)
		for n := 0; n <= 300; n++ {
			if n > 255-greatest {
				wantNoPath(t, path, n, api.ErrStep)
				continue
			}
			want := path
			for place := range want {
				want[place].Step += n
			}
			wantFollow(t, path, n, want, api.OK)
		}
		for _, n := range farSteps() {
			wantNoPath(t, path, n, api.ErrStep)
		}
	}
}

// P10.2: a key that isn't good, at each place, is told ahead of any n, and of a key beside it that can't be advanced.
func TestFollowWrong(t *testing.T) {
	var bad []api.Key
	for _, base := range []int{math.MinInt, -1<<32 + 7, -1, 0, 65536, 65536 + 7, 1<<32 + 7, math.MaxInt} {
		bad = append(bad, k(base, 0), k(base, 255))
	}
	for _, step := range farSteps() {
		bad = append(bad, k(1, step), k(65535, step))
	}
	for _, wrong := range bad {
		for place := range api.Height {
			for _, path := range goodPaths() {
				path[place] = wrong
				for _, n := range []int{0, 1, 2, 255, 256, -1, math.MinInt, math.MaxInt} {
					wantNoPath(t, path, n, api.ErrKey)
				}
			}
		}
	}
	wantNoPath(t, api.Path{}, 0, api.ErrKey)
	wantNoPath(t, api.Path{k(7, 255), k(2, 0), {}}, 2, api.ErrKey)
}

// P1: whatever is handed in is answered.
func TestAnything(t *testing.T) {
	chance := rand.New(rand.NewSource(107))
	numbers := append(farSteps(), 0, 1, 2, 3, 22, 40, 200, 201, 255, 32767)
	pick := func() int { return numbers[chance.Intn(len(numbers))] }
	for range 20000 {
		var keys api.Keys
		for v := range keys {
			keys[v] = k(pick(), pick())
		}
		wantCheck(t, keys, modelCheck(keys))
		mask, fresh := chance.Uint32(), pick()
		wantTurn(t, keys, mask, fresh, modelTurn(keys, mask, fresh))
		wantTurn(t, keysAt(3), mask, fresh, modelTurn(keysAt(3), mask, fresh))
		if x, e := ratchet.LeafAt(api.Entry{Who: pick(), Base: pick(), Since: pick()}, pick()); (e == api.OK) != key.Good(x) {
			t.Fatalf("a leaf key is %v, %d", x, e)
		}
		if p, e := ratchet.Follow(api.Path{k(pick(), pick()), k(pick(), pick()), k(pick(), pick())}, pick()); (e == api.OK) == (p == api.Path{}) {
			t.Fatalf("a path is %v, %d", p, e)
		}
	}
}

// R5, R6: what is handed in stays, and what a call answers hangs on nothing that was asked before it.
func TestAnswersStay(t *testing.T) {
	keys, path, entry := spread(3), goodPaths()[0], api.Entry{Who: 1, Base: 22, Since: 5}
	want := modelTurn(keys, 0x155555, 40)
	for _, mask := range someMasks() {
		turn(keys, mask, 40)
		turn(keysAt(255), mask, 5)
		ratchet.Check(api.Keys{})
		wantTurn(t, keys, 0x155555, 40, want)
		wantLeaf(t, entry, 9, k(22, 4), api.OK)
		wantFollow(t, path, 2, api.Path{k(7, 5), k(2, 2), k(1, 11)}, api.OK)
	}
	if keys != spread(3) || path != goodPaths()[0] || entry != (api.Entry{Who: 1, Base: 22, Since: 5}) {
		t.Errorf("what was handed in became %v, %v, %v", keys, path, entry)
	}
}
