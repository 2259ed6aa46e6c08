// Package shape is layer 1: see shared/doc/01-shape.md.
//
// A node's place among the nodes of its level is the way to it from the root, api.Bits bits for each level gone down; so all answers are reckoned by shifts, and nothing is kept.
package shape

import "coterie/api"

// digitMask has the bits of one digit, which says one child out of api.Arity.
const digitMask = api.Arity - 1

// Each call asks these ahead of any reckoning: numbers far out would overflow in it and come back as nodes.
func isNode(v int) bool { return v >= 0 && v < api.Nodes }

func isInner(v int) bool { return v >= 0 && v < api.Inner }

func isSlot(slot int) bool { return slot >= 0 && slot < api.MaxMembers }

// first is the least node of a level: ahead of it stand the nodes of the levels above, 1 + 4 + .. + 4^(level-1) = (4^level - 1) / 3 of them.
func first(level int) int {
	return int((uint64(1)<<uint(api.Bits*level) - 1) / (api.Arity - 1))
}

// Level: 0 the root .. 3 a leaf; -1 no node.
func Level(v int) int {
	if !isNode(v) {
		return -1
	}
	level := 0
	for v >= first(level+1) {
		level++
	}
	return level
}

// Parent: the node above; -1 none.
func Parent(v int) int {
	if v == 0 || !isNode(v) {
		return -1
	}
	return (v - 1) >> api.Bits
}

// Child: the child number i; -1 none.
func Child(v, i int) int {
	if !isInner(v) || i < 0 || i >= api.Arity {
		return -1
	}
	return v<<api.Bits + 1 + i
}

// Which: which child of its parent it is; -1 none.
func Which(v int) int {
	if v == 0 || !isNode(v) {
		return -1
	}
	return (v - 1) & digitMask
}

// Leaf: the slot's leaf; -1 none.
func Leaf(slot int) int {
	if !isSlot(slot) {
		return -1
	}
	return api.Inner + slot
}

// Slot: the leaf's slot; -1 none.
func Slot(v int) int {
	if !isNode(v) || isInner(v) {
		return -1
	}
	return v - api.Inner
}

// Path: the inner nodes above the slot's leaf, bottom up.
func Path(slot int) ([api.Height]int, bool) {
	digits, ok := Digits(slot)
	if !ok {
		return [api.Height]int{}, false
	}
	var path [api.Height]int
	v := 0
	for level, d := range digits {
		path[api.Height-1-level] = v
		v = Child(v, int(d))
	}
	return path, true
}

// Mask: the slots below the node.
func Mask(v int) uint64 {
	if !isNode(v) {
		return 0
	}
	level := Level(v)
	width := uint(1) << uint(api.Bits*(api.Height-level))
	place := uint(v - first(level))
	// The root's width is the whole word's: the one is shifted out, and 0 - 1 wraps round to all bits.
	return (uint64(1)<<width - 1) << (place * width)
}

// Above: the inner nodes above these slots.
func Above(slots uint64) uint32 {
	var nodes uint32
	for v := range api.Inner {
		if Mask(v)&slots != 0 {
			nodes |= uint32(1) << uint(v)
		}
	}
	return nodes
}

// Below: does w lie below v?
func Below(v, w int) bool {
	// Meet's -1 for 'none' must not be taken for a v of -1.
	return isNode(v) && Meet(v, w) == v
}

// Meet: the deepest node below which both lie; -1 none.
func Meet(v, w int) int {
	if !isNode(v) || !isNode(w) {
		return -1
	}
	// A parent's number is less than its child's, so the greater of the two isn't above the other one: it may go up without passing the node they meet at.
	for v != w {
		if v < w {
			v, w = w, v
		}
		v = Parent(v)
	}
	return v
}

// Digits: the slot in base 4, the greatest digit first.
func Digits(slot int) ([api.Height]uint8, bool) {
	if !isSlot(slot) {
		return [api.Height]uint8{}, false
	}
	var digits [api.Height]uint8
	for i := range digits {
		shift := uint(api.Bits * (api.Height - 1 - i))
		digits[i] = uint8(slot>>shift) & digitMask
	}
	return digits, true
}

// Undigit: the slot with these digits; -1 none.
func Undigit(d [api.Height]uint8) int {
	slot := 0
	for _, digit := range d {
		if digit >= api.Arity {
			return -1
		}
		slot = slot<<api.Bits | int(digit)
	}
	return slot
}
