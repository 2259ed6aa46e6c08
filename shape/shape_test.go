package shape_test

import (
	"math"
	"math/bits"
	"strconv"
	"testing"

	"coterie/api"
	"coterie/shape"
)

// model is the tree as DOC.md's words build it, from the root down by 4v + 1 to 4v + 4, without the package's own reckoning.
type model struct {
	level, parent, which [api.Nodes]int
	mask                 [api.Nodes]uint64
	under                [api.Nodes][api.Nodes]bool
}

func build() *model {
	m := &model{}
	m.grow(0, 0, -1, -1)
	return m
}

func (m *model) grow(v, level, parent, which int) {
	m.level[v], m.parent[v], m.which[v] = level, parent, which
	m.under[v][v] = true
	if v >= 21 {
		m.mask[v] = 1 << (v - 21)
		return
	}
	for i := range 4 {
		c := 4*v + 1 + i
		m.grow(c, level+1, v, i)
		m.mask[v] |= m.mask[c]
		for w := range api.Nodes {
			m.under[v][w] = m.under[v][w] || m.under[c][w]
		}
	}
}

// meet looks through all nodes for the one of greatest level that has both below it.
func (m *model) meet(v, w int) int {
	best := 0
	for u := range api.Nodes {
		if m.under[u][v] && m.under[u][w] && m.level[u] > m.level[best] {
			best = u
		}
	}
	return best
}

// above has the inner nodes that are met going up from each of the slots' leaves.
func (m *model) above(slots uint64) uint32 {
	var nodes uint32
	for s := range 64 {
		if slots>>s&1 == 0 {
			continue
		}
		for v := m.parent[21+s]; v >= 0; v = m.parent[v] {
			nodes |= 1 << v
		}
	}
	return nodes
}

// far are numbers that are neither a node nor a slot; among them those that would look like one if a conversion or an overflow cut them.
func far() []int {
	return []int{
		math.MinInt, math.MinInt + 1, math.MinInt + 5, math.MinInt + 21, math.MinInt + 84,
		-1 << 32, -1<<32 + 5, -1<<31 - 1, -1 << 31, -65536, -256 + 5, -256, -86, -85, -84, -64, -63, -22, -21, -20, -5, -4, -3, -2, -1,
		85, 86, 89, 106, 127, 128, 256, 256 + 5, 256 + 63, 65536, 1<<31 - 1, 1 << 31, 1 << 32, 1<<32 + 5, 1<<32 + 63, 1 << 62, 1<<62 + 5,
		math.MaxInt - 21, math.MaxInt - 4, math.MaxInt - 1, math.MaxInt,
	}
}

// noSlots are far's numbers and the nodes' numbers that are too great for a slot.
func noSlots() []int {
	list := far()
	for s := 64; s < 85; s++ {
		list = append(list, s)
	}
	return list
}

func TestLevelAndParentAndWhich(t *testing.T) {
	m := build()
	for v := range api.Nodes {
		if got := shape.Level(v); got != m.level[v] {
			t.Errorf("Level(%d) = %d, want %d", v, got, m.level[v])
		}
		if got := shape.Parent(v); got != m.parent[v] {
			t.Errorf("Parent(%d) = %d, want %d", v, got, m.parent[v])
		}
		if got := shape.Which(v); got != m.which[v] {
			t.Errorf("Which(%d) = %d, want %d", v, got, m.which[v])
		}
		if v > 0 && shape.Child(shape.Parent(v), shape.Which(v)) != v {
			t.Errorf("node %d isn't the child that Which tells of its parent", v)
		}
	}
	for _, v := range far() {
		if l, p, w := shape.Level(v), shape.Parent(v), shape.Which(v); l != -1 || p != -1 || w != -1 {
			t.Errorf("no node %d: level %d, parent %d, which %d", v, l, p, w)
		}
	}
}

func TestLevelAtTheEdges(t *testing.T) {
	for _, c := range []struct{ v, level int }{{0, 0}, {1, 1}, {4, 1}, {5, 2}, {20, 2}, {21, 3}, {84, 3}, {85, -1}, {-1, -1}} {
		if got := shape.Level(c.v); got != c.level {
			t.Errorf("Level(%d) = %d, want %d", c.v, got, c.level)
		}
	}
}

func TestChild(t *testing.T) {
	for v := range api.Inner {
		for i := range api.Arity {
			c := shape.Child(v, i)
			if c != 4*v+1+i {
				t.Errorf("Child(%d, %d) = %d", v, i, c)
			}
			if shape.Parent(c) != v {
				t.Errorf("Parent(Child(%d, %d)) = %d", v, i, shape.Parent(c))
			}
		}
	}
}

func TestChildThatIsNot(t *testing.T) {
	wrong := append(far(), 4, 5, 6, 7, 8, 20, 21, 63, 64, 84)
	for v := range api.Nodes {
		for _, i := range wrong {
			if got := shape.Child(v, i); got != -1 {
				t.Errorf("Child(%d, %d) = %d", v, i, got)
			}
		}
	}
	for _, v := range far() {
		for i := -1; i <= 4; i++ {
			if got := shape.Child(v, i); got != -1 {
				t.Errorf("Child(%d, %d) = %d", v, i, got)
			}
		}
		for _, i := range far() {
			if got := shape.Child(v, i); got != -1 {
				t.Errorf("Child(%d, %d) = %d", v, i, got)
			}
		}
	}
	for v := 21; v < 85; v++ {
		for i := range api.Arity {
			if got := shape.Child(v, i); got != -1 {
				t.Errorf("Child(%d, %d) = %d of a leaf", v, i, got)
			}
		}
	}
}

func TestLeafAndSlot(t *testing.T) {
	for s := range 64 {
		if got := shape.Leaf(s); got != 21+s {
			t.Errorf("Leaf(%d) = %d", s, got)
		}
		if got := shape.Slot(21 + s); got != s {
			t.Errorf("Slot(%d) = %d", 21+s, got)
		}
	}
	for _, s := range noSlots() {
		if got := shape.Leaf(s); got != -1 {
			t.Errorf("Leaf(%d) = %d", s, got)
		}
	}
	for v := range 21 {
		if got := shape.Slot(v); got != -1 {
			t.Errorf("Slot(%d) = %d of an inner node", v, got)
		}
	}
	for _, v := range far() {
		if got := shape.Slot(v); got != -1 {
			t.Errorf("Slot(%d) = %d", v, got)
		}
	}
}

func TestPath(t *testing.T) {
	m := build()
	for s := range 64 {
		path, ok := shape.Path(s)
		if !ok {
			t.Errorf("Path(%d) is refused", s)
			continue
		}
		below := 21 + s
		for i, v := range path {
			if v != m.parent[below] {
				t.Errorf("Path(%d) has %d at place %d, want %d", s, v, i, m.parent[below])
				break
			}
			below = v
		}
		if path[2] != 0 {
			t.Errorf("Path(%d) ends with %d", s, path[2])
		}
	}
}

func TestPathByExample(t *testing.T) {
	for _, c := range []struct {
		slot int
		path [api.Height]int
	}{{0, [api.Height]int{5, 1, 0}}, {63, [api.Height]int{20, 4, 0}}, {37, [api.Height]int{14, 3, 0}}, {15, [api.Height]int{8, 1, 0}}, {16, [api.Height]int{9, 2, 0}}} {
		if path, ok := shape.Path(c.slot); !ok || path != c.path {
			t.Errorf("Path(%d) = %v, %v", c.slot, path, ok)
		}
	}
	if shape.Leaf(37) != 58 || shape.Child(14, 1) != 58 {
		t.Error("the leaf of slot 37 isn't the child 1 of node 14")
	}
}

func TestPathAndDigitsOfNoSlot(t *testing.T) {
	for _, s := range noSlots() {
		if path, ok := shape.Path(s); ok || path != [api.Height]int{} {
			t.Errorf("Path(%d) = %v, %v", s, path, ok)
		}
		if digits, ok := shape.Digits(s); ok || digits != [api.Height]uint8{} {
			t.Errorf("Digits(%d) = %v, %v", s, digits, ok)
		}
	}
}

func TestMask(t *testing.T) {
	m := build()
	for v := range api.Nodes {
		if got := shape.Mask(v); got != m.mask[v] {
			t.Errorf("Mask(%d) = %x, want %x", v, got, m.mask[v])
		}
	}
	for v, want := range map[int]uint64{0: math.MaxUint64, 1: 0xffff, 4: 0xffff << 48, 5: 0xf, 20: 0xf << 60, 21: 1, 84: 1 << 63} {
		if got := shape.Mask(v); got != want {
			t.Errorf("Mask(%d) = %x, want %x", v, got, want)
		}
	}
	for _, v := range far() {
		if got := shape.Mask(v); got != 0 {
			t.Errorf("Mask(%d) = %x", v, got)
		}
	}
}

func TestMasksOfChildrenPartTheirParents(t *testing.T) {
	for v := range api.Inner {
		var all uint64
		count := 0
		for i := range api.Arity {
			mask := shape.Mask(shape.Child(v, i))
			all |= mask
			count += bits.OnesCount64(mask)
		}
		if all != shape.Mask(v) || count != bits.OnesCount64(all) {
			t.Errorf("the children of %d have %x in %d bits, it has %x", v, all, count, shape.Mask(v))
		}
	}
}

// someSets are sets of slots: none, all, each alone, each pair, each node's, and what is left without each.
func someSets() []uint64 {
	list := []uint64{0, math.MaxUint64, 0x5555555555555555, 0x8000000000000001, 0x0001000100010001}
	for s := range 64 {
		list = append(list, 1<<s, ^(uint64(1) << s))
		for r := range s {
			list = append(list, 1<<s|1<<r)
		}
	}
	for v := range api.Nodes {
		list = append(list, shape.Mask(v), ^shape.Mask(v))
	}
	return list
}

func TestAbove(t *testing.T) {
	m := build()
	for _, slots := range someSets() {
		got := shape.Above(slots)
		if want := m.above(slots); got != want {
			t.Errorf("Above(%x) = %x, want %x", slots, got, want)
		}
		for v := range 32 {
			has := got>>v&1 == 1
			if want := v < 21 && m.mask[v]&slots != 0; has != want {
				t.Errorf("Above(%x) has node %d: %v, want %v", slots, v, has, want)
			}
		}
	}
	for slots, want := range map[uint64]uint32{0: 0, 1: 35, 1 << 63: 1<<0 | 1<<4 | 1<<20, math.MaxUint64: 1<<21 - 1} {
		if got := shape.Above(slots); got != want {
			t.Errorf("Above(%x) = %x, want %x", slots, got, want)
		}
	}
}

func TestBelowAndMeet(t *testing.T) {
	m := build()
	for v := range api.Nodes {
		for w := range api.Nodes {
			below, meet := shape.Below(v, w), shape.Meet(v, w)
			if below != m.under[v][w] {
				t.Errorf("Below(%d, %d) = %v", v, w, below)
			}
			if want := m.meet(v, w); meet != want {
				t.Errorf("Meet(%d, %d) = %d, want %d", v, w, meet, want)
			}
			if below != (meet == v) {
				t.Errorf("Below(%d, %d) = %v, but they meet at %d", v, w, below, meet)
			}
		}
	}
}

func TestBelowAndMeetByExample(t *testing.T) {
	for _, c := range [][3]int{{21, 24, 5}, {21, 25, 1}, {21, 84, 0}, {5, 21, 5}, {21, 5, 5}, {0, 0, 0}, {84, 84, 84}, {20, 0, 0}} {
		if got := shape.Meet(c[0], c[1]); got != c[2] {
			t.Errorf("Meet(%d, %d) = %d, want %d", c[0], c[1], got, c[2])
		}
	}
	if !shape.Below(1, 21) || shape.Below(2, 21) || shape.Below(21, 1) || !shape.Below(0, 84) || !shape.Below(0, 0) || !shape.Below(84, 84) {
		t.Error("Below")
	}
}

func TestBelowAndMeetOfNoNode(t *testing.T) {
	check := func(v, w int) {
		if below, meet := shape.Below(v, w), shape.Meet(v, w); below || meet != -1 {
			t.Errorf("nodes %d and %d: below %v, meet %d", v, w, below, meet)
		}
	}
	for _, v := range far() {
		for w := range api.Nodes {
			check(v, w)
			check(w, v)
		}
		for _, w := range far() {
			check(v, w)
		}
	}
}

func TestDigitsAndUndigit(t *testing.T) {
	for s := range 64 {
		text := strconv.FormatInt(int64(s), 4)
		text = "000"[len(text):] + text
		want := [api.Height]uint8{text[0] - '0', text[1] - '0', text[2] - '0'}
		got, ok := shape.Digits(s)
		if !ok || got != want {
			t.Errorf("Digits(%d) = %v, %v, want %v", s, got, ok, want)
		}
		if back := shape.Undigit(got); back != s {
			t.Errorf("Undigit(%v) = %d, want %d", got, back, s)
		}
	}
}

// All the digits there can be: just those up to 3 are a slot's, and its digits are these.
func TestUndigitOfAnyDigits(t *testing.T) {
	for n := range 1 << 24 {
		d := [api.Height]uint8{uint8(n >> 16), uint8(n >> 8), uint8(n)}
		want := -1
		if d[0] <= 3 && d[1] <= 3 && d[2] <= 3 {
			want = 16*int(d[0]) + 4*int(d[1]) + int(d[2])
		}
		got := shape.Undigit(d)
		if got != want {
			t.Fatalf("Undigit(%v) = %d, want %d", d, got, want)
		}
		if got < 0 {
			continue
		}
		if back, ok := shape.Digits(got); !ok || back != d {
			t.Fatalf("Digits(%d) = %v, %v, want %v", got, back, ok, d)
		}
	}
}

func TestDigitsSayThePath(t *testing.T) {
	for s := range 64 {
		digits, _ := shape.Digits(s)
		path, _ := shape.Path(s)
		v := 0
		for level, d := range digits {
			if shape.Level(v) != level || path[api.Height-1-level] != v {
				t.Errorf("slot %d: at level %d its digits lead to %d, its path %v", s, level, v, path)
			}
			v = shape.Child(v, int(d))
		}
		if v != shape.Leaf(s) {
			t.Errorf("slot %d: its digits lead to %d, its leaf is %d", s, v, shape.Leaf(s))
		}
	}
}
