package data_test

import (
	"maps"
	"math"
	"math/rand"
	"slices"
	"strings"
	"testing"

	"coterie/api"
	"coterie/data"
	"coterie/keytree"
	"coterie/member"
	"coterie/plan"
	"coterie/recovery"
	"coterie/wire"
)

func k(base, step int) api.Key { return api.Key{Base: base, Step: step} }

func sealed(epoch int, under api.Key, text string) api.Sealed {
	return api.Sealed{Epoch: epoch, Under: under, Text: text}
}

// out, waiting and standing are states of the three kinds that aren't blank.
func out(who, epoch int) api.Member { return api.Member{Who: who, Epoch: epoch, Out: true} }

func waiting(who, slot, epoch int, leaf api.Key) api.Member {
	return api.Member{Who: who, Slot: slot, Epoch: epoch, Leaf: leaf}
}

func standing(who, slot, epoch int, leaf, low, middle, root api.Key) api.Member {
	return api.Member{Who: who, Slot: slot, Epoch: epoch, Leaf: leaf, Path: api.Path{low, middle, root}, Has: true}
}

func behind(m api.Member, epoch int) api.Member {
	m.Behind = epoch
	return m
}

// plain stands at the epoch 7, with the group key {62 2}.
func plain() api.Member {
	return standing(9, 37, 7, k(50, 4), k(60, 2), k(61, 3), k(62, 2))
}

// fresh has just its card, at the same seat and epoch.
func fresh() api.Member { return waiting(9, 37, 7, k(50, 4)) }

// forPlain is what plain opens.
func forPlain(text string) api.Sealed { return sealed(7, k(62, 2), text) }

// rightStates are of all four kinds, and among them are those with their numbers at the bounds.
func rightStates() []api.Member {
	most := k(65535, 255)
	list := []api.Member{
		{}, out(0, 1), out(255, 200), out(7, 100), plain(), fresh(),
		waiting(0, 0, 1, k(1, 0)), waiting(255, 63, 200, most), waiting(0, 0, 199, k(1, 255)),
		standing(0, 0, 1, k(1, 0), k(1, 0), k(1, 0), k(1, 0)), standing(255, 63, 200, most, most, most, most), standing(0, 63, 199, most, k(1, 0), k(65535, 0), k(1, 255)),
	}
	for _, m := range list {
		if m.Epoch == 0 || m.Out || m.Epoch == 200 {
			continue
		}
		list = append(list, behind(m, m.Epoch+1), behind(m, 200))
	}
	return list
}

// farNumbers are beyond every limit, and among them are those that would look like a number in bounds if a conversion cut them or a sum ran over.
func farNumbers() []int {
	return []int{
		-1, -2, -63, -64, -128, -255, -256, -65536, -65536 + 62, -1 << 31, -1<<31 + 7, -1 << 32, -1<<32 + 1, math.MinInt, math.MinInt + 1, math.MinInt + 7,
		65536, 65536 + 1, 65536 + 62, 1<<31 - 1, 1 << 31, 1<<31 + 7, 1<<32 - 1, 1 << 32, 1<<32 + 1, 1<<32 + 7, 1<<32 + 62, 1 << 62,
		math.MaxInt - 200, math.MaxInt - 1, math.MaxInt,
	}
}

// edgeNumbers are around each bound, and far ones.
func edgeNumbers() []int {
	return append(farNumbers(), 0, 1, 2, 3, 6, 7, 8, 9, 37, 61, 62, 63, 64, 65, 99, 100, 101, 127, 128, 198, 199, 200, 201, 202, 254, 255, 256, 257, 256+7, 32767, 32768, 65534, 65535)
}

// numbersOf are all the numbers of a state, to be written on.
func numbersOf(m *api.Member) []*int {
	return []*int{
		&m.Who, &m.Slot, &m.Epoch, &m.Behind, &m.Leaf.Base, &m.Leaf.Step,
		&m.Path[0].Base, &m.Path[0].Step, &m.Path[1].Base, &m.Path[1].Step, &m.Path[2].Base, &m.Path[2].Step,
	}
}

// numbersIn are all the numbers of a sealed text, to be written on.
func numbersIn(s *api.Sealed) []*int { return []*int{&s.Epoch, &s.Under.Base, &s.Under.Step} }

// otherStates are the right ones with any one number another one, or with any of the two flags turned.
func otherStates() []api.Member {
	var list []api.Member
	for _, m := range rightStates() {
		for i := range numbersOf(&m) {
			for _, n := range edgeNumbers() {
				one := m
				*numbersOf(&one)[i] = n
				list = append(list, one)
			}
		}
		for flags := range 4 {
			one := m
			one.Has, one.Out = flags&1 == 1, flags&2 == 2
			list = append(list, one, behind(one, 0), behind(one, 200))
		}
	}
	return list
}

// noCards are states of which nothing is taken: the blank one, and wrong ones.
func noCards() []api.Member {
	pathless, halfPath, badPath, outWithKeys := plain(), fresh(), plain(), plain()
	pathless.Has = false
	halfPath.Path[2] = k(62, 2)
	badPath.Path[0] = k(60, 256)
	outWithKeys.Out = true
	list := []api.Member{
		{}, pathless, halfPath, badPath, outWithKeys, {Who: 9}, {Epoch: 7}, {Has: true}, {Out: true}, {Behind: 8}, {Path: api.Path{2: k(62, 2)}, Has: true},
		out(256, 7), out(-1, 7), out(9, 0), out(9, 201), behind(out(9, 7), 8),
		behind(plain(), 7), behind(plain(), 6), behind(plain(), -1), behind(plain(), 201), behind(fresh(), 7), behind(fresh(), 201),
	}
	for _, n := range farNumbers() {
		for i := range numbersOf(&api.Member{}) {
			one := plain()
			*numbersOf(&one)[i] = n
			list = append(list, one)
		}
	}
	return list
}

// oddTexts have any bytes in them, and are all of at most 64.
func oddTexts() []string {
	list := []string{"", "a", "hello", "\x00", "\xff", " ", "\n", "\"", "\\", "k62.2", "\x00\x00\x00", "a\x00b", "\xc3\x28", "ä", "世界", "\xef\xbf\xbd", strings.Repeat("x", 63), strings.Repeat("x", 64), strings.Repeat("\x00", 64), strings.Repeat("\xff", 64), strings.Repeat("ä", 32), strings.Repeat("世", 21) + "x"}
	for b := range 256 {
		list = append(list, string([]byte{byte(b)}))
	}
	return list
}

// longTexts are of more than 64 bytes, and among them are some of fewer runes.
func longTexts() []string {
	return []string{strings.Repeat("x", 65), strings.Repeat("x", 66), strings.Repeat("\x00", 65), strings.Repeat("x", 127), strings.Repeat("x", 128), strings.Repeat("x", 256), strings.Repeat("x", 256+5), strings.Repeat("ä", 33), strings.Repeat("世", 22), strings.Repeat("x", 65536), strings.Repeat("x", 1<<20)}
}

func within(n, least, most int) bool { return least <= n && n <= most }

func modelKey(x api.Key) bool { return within(x.Base, 1, 65535) && within(x.Step, 0, 255) }

// modelKind counts what stands in the state against what a kind may have.
func modelKind(m api.Member) int {
	zero, good := 0, 0
	for _, x := range m.Path {
		if x == k(0, 0) {
			zero++
		}
		if modelKey(x) {
			good++
		}
	}
	seated := !m.Out && within(m.Who, 0, 255) && within(m.Slot, 0, 63) && within(m.Epoch, 1, 200) && modelKey(m.Leaf) && (m.Behind == 0 || within(m.Behind, m.Epoch+1, 200))
	empty := m.Slot == 0 && m.Leaf == k(0, 0) && zero == 3 && !m.Has && m.Behind == 0
	switch {
	case empty && m.Who == 0 && m.Epoch == 0 && !m.Out:
		return 0
	case empty && within(m.Who, 0, 255) && within(m.Epoch, 1, 200) && m.Out:
		return 1
	case seated && !m.Has && zero == 3:
		return 2
	case seated && m.Has && good == 3:
		return 3
	}
	return -1
}

// modelStands: what each kind of state is told.
func modelStands(m api.Member) api.Errno {
	return map[int]api.Errno{-1: api.ErrCard, 0: api.ErrCard, 1: api.ErrOut, 2: api.ErrGap, 3: api.OK}[modelKind(m)]
}

func modelSeal(m api.Member, text string) (api.Sealed, api.Errno) {
	if e := modelStands(m); e != api.OK {
		return api.Sealed{}, e
	}
	if len([]byte(text)) >= 65 {
		return api.Sealed{}, api.ErrText
	}
	return sealed(m.Epoch, m.Path[2], text), api.OK
}

// modelOpen goes by the chapter's words.
func modelOpen(m api.Member, s api.Sealed) (string, api.Errno) {
	if e := modelStands(m); e != api.OK {
		return "", e
	}
	if !within(s.Epoch, 1, 200) || !modelKey(s.Under) || len([]byte(s.Text)) >= 65 {
		return "", api.ErrWire
	}
	if s.Epoch != m.Epoch {
		return "", map[bool]api.Errno{true: api.ErrOld, false: api.ErrAhead}[s.Epoch < m.Epoch]
	}
	if s.Under.Base != m.Path[2].Base || s.Under.Step != m.Path[2].Step {
		return "", api.ErrOpen
	}
	return s.Text, api.OK
}

func wantSeal(t *testing.T, m api.Member, text string, want api.Sealed, status api.Errno) {
	t.Helper()
	if got, e := data.Seal(m, text); got != want || e != status {
		t.Fatalf("Seal(%+v, %q)\n= %+v, %d; want\n  %+v, %d", m, text, got, e, want, status)
	}
}

// wantUnsealed: the answer is this error, and nothing beside it.
func wantUnsealed(t *testing.T, m api.Member, text string, status api.Errno) {
	t.Helper()
	wantSeal(t, m, text, api.Sealed{}, status)
}

func wantOpen(t *testing.T, m api.Member, s api.Sealed, want string, status api.Errno) {
	t.Helper()
	if got, e := data.Open(m, s); got != want || e != status {
		t.Fatalf("Open(%+v, %+v) = %q, %d; want %q, %d", m, s, got, e, want, status)
	}
}

// wantShut: the answer is this error, and nothing beside it.
func wantShut(t *testing.T, m api.Member, s api.Sealed, status api.Errno) {
	t.Helper()
	wantOpen(t, m, s, "", status)
}

// wantSealAsModel: the answer is the model's.
func wantSealAsModel(t *testing.T, m api.Member, text string) api.Errno {
	t.Helper()
	want, status := modelSeal(m, text)
	wantSeal(t, m, text, want, status)
	return status
}

func wantOpenAsModel(t *testing.T, m api.Member, s api.Sealed) api.Errno {
	t.Helper()
	want, status := modelOpen(m, s)
	wantOpen(t, m, s, want, status)
	return status
}

// step is one of the server's.
func step(t *testing.T, tree api.Tree, b api.Batch) (api.Tree, api.Rekey) {
	t.Helper()
	next, r, e := plan.Next(tree, b)
	if e != api.OK {
		t.Fatalf("Next(%v) = %d", b, e)
	}
	return next, r
}

// small is chapter 11's T.
func small(t *testing.T) api.Tree {
	t.Helper()
	tree, _ := step(t, keytree.Start(), api.Batch{Joins: []int{1, 2, 3}})
	return tree
}

func stands(t *testing.T, tree api.Tree, who int) api.Member {
	t.Helper()
	m, e := keytree.Stand(tree, who)
	if e != api.OK {
		t.Fatalf("%d doesn't stand: %d", who, e)
	}
	return m
}

// carded is who has just its card of this tree.
func carded(t *testing.T, tree api.Tree, who int) api.Member {
	t.Helper()
	c, e := keytree.Card(tree, who)
	if e != api.OK {
		t.Fatalf("%d has no card: %d", who, e)
	}
	m, e := member.Seated(c)
	if e != api.OK {
		t.Fatalf("%d isn't seated: %d", who, e)
	}
	return m
}

// says is what this device seals.
func says(t *testing.T, m api.Member, text string) api.Sealed {
	t.Helper()
	s, e := data.Seal(m, text)
	if e != api.OK {
		t.Fatalf("Seal(%+v, %q) = %d", m, text, e)
	}
	return s
}

// P17.1, P17.2, P17.3: the chapter's example 1.
func TestHello(t *testing.T) {
	first := small(t)
	next, _ := step(t, first, api.Batch{})
	one, two, later := stands(t, first, 1), stands(t, first, 2), stands(t, next, 2)
	wantSeal(t, one, "hello", sealed(1, k(1, 1), "hello"), api.OK)
	wantOpen(t, two, says(t, one, "hello"), "hello", api.OK)
	wantShut(t, later, says(t, one, "hello"), api.ErrOld)
	wantShut(t, two, says(t, later, "hello"), api.ErrAhead)
}

// P17.1: the chapter's example 2.
func TestTooLong(t *testing.T) {
	tree := small(t)
	wantUnsealed(t, stands(t, tree, 1), strings.Repeat("x", 65), api.ErrText)
	for _, text := range append(oddTexts(), longTexts()...) {
		wantUnsealed(t, carded(t, tree, 1), text, api.ErrGap)
	}
}

// P17.1: the chapter's example 3.
func TestUnderLaterStep(t *testing.T) {
	wantShut(t, stands(t, small(t), 2), sealed(1, k(1, 2), "hello"), api.ErrOpen)
}

// P17.1: what is sealed has the epoch, the group key and the text, of whatever bytes; who sealed it opens it.
func TestSealedTexts(t *testing.T) {
	for _, text := range oddTexts() {
		wantSeal(t, plain(), text, sealed(7, k(62, 2), text), api.OK)
		wantOpen(t, plain(), forPlain(text), text, api.OK)
	}
	for _, text := range longTexts() {
		wantUnsealed(t, plain(), text, api.ErrText)
		wantShut(t, plain(), forPlain(text), api.ErrWire)
	}
}

// P17.1: texts of every length up to the bound and beyond it.
func TestEveryLength(t *testing.T) {
	for length := range 300 {
		text := strings.Repeat("\xfe", length)
		if length <= 64 {
			wantSeal(t, plain(), text, forPlain(text), api.OK)
			wantOpen(t, plain(), forPlain(text), text, api.OK)
		} else {
			wantUnsealed(t, plain(), text, api.ErrText)
			wantShut(t, plain(), forPlain(text), api.ErrWire)
		}
	}
}

// P17.1: it is the path's last key, at the bounds of a key and of an epoch too; that something is missing beyond the epoch hinders nothing.
func TestSealingStates(t *testing.T) {
	most := k(65535, 255)
	wantSeal(t, standing(0, 0, 1, k(4, 0), k(3, 0), k(2, 0), k(1, 0)), "a", sealed(1, k(1, 0), "a"), api.OK)
	wantSeal(t, standing(255, 63, 200, k(4, 0), k(3, 0), k(2, 0), most), "a", sealed(200, most, "a"), api.OK)
	for _, seen := range []int{8, 9, 100, 199, 200} {
		wantSeal(t, behind(plain(), seen), "a", forPlain("a"), api.OK)
		wantOpen(t, behind(plain(), seen), forPlain("a"), "a", api.OK)
	}
	// Who, slot and the keys below the root aren't told.
	other := standing(10, 3, 7, k(90, 1), k(91, 1), k(92, 1), k(62, 2))
	wantSeal(t, other, "a", forPlain("a"), api.OK)
	wantOpen(t, other, forPlain("a"), "a", api.OK)
}

// P17.1: what each state that doesn't stand is told, whatever the text is.
func TestSealFirst(t *testing.T) {
	for _, text := range []string{"", "a", strings.Repeat("x", 64), strings.Repeat("x", 65), strings.Repeat("x", 1000)} {
		for _, m := range noCards() {
			wantUnsealed(t, m, text, api.ErrCard)
		}
		for _, m := range []api.Member{out(0, 1), out(9, 7), out(255, 200)} {
			wantUnsealed(t, m, text, api.ErrOut)
		}
		for _, m := range []api.Member{fresh(), behind(fresh(), 8), behind(fresh(), 200), waiting(0, 0, 1, k(1, 0)), waiting(255, 63, 200, k(65535, 255))} {
			wantUnsealed(t, m, text, api.ErrGap)
		}
	}
}

// wrongSealed are no right message's, whatever else may be said of them.
func wrongSealed() []api.Sealed {
	list := []api.Sealed{{}, {Text: "a"}, {Epoch: 7, Text: "a"}, {Under: k(62, 2), Text: "a"}, {Epoch: 7, Under: k(0, 2), Text: "a"}}
	for _, epoch := range append(farNumbers(), 0, 201, 202, 256, 256+7) {
		list = append(list, sealed(epoch, k(62, 2), "a"), sealed(epoch, k(5, 5), ""))
	}
	for _, n := range farNumbers() {
		list = append(list, sealed(7, k(n, 2), "a"), sealed(7, k(62, n), "a"), sealed(6, k(n, 2), "a"), sealed(8, k(62, n), "a"))
	}
	for _, under := range []api.Key{k(0, 0), k(0, 2), k(62, 256), k(62, 256+2), k(62, -1), k(65536, 0), k(65536+62, 2), k(-62, 2)} {
		list = append(list, sealed(7, under, "a"), sealed(6, under, "a"), sealed(8, under, "a"))
	}
	for _, text := range longTexts() {
		list = append(list, forPlain(text), sealed(6, k(62, 2), text), sealed(8, k(62, 2), text), sealed(7, k(5, 5), text))
	}
	return list
}

// otherKeys are good, and not plain's group key; among them are all others that it holds, and those that give it or are given by it.
func otherKeys() []api.Key {
	return []api.Key{k(62, 0), k(62, 1), k(62, 3), k(62, 255), k(61, 2), k(63, 2), k(1, 0), k(65535, 255), k(50, 4), k(60, 2), k(61, 3), k(2, 62), k(32768, 0), k(62+256, 2)}
}

// P17.1: what each state that doesn't stand is told, whatever is to be opened.
func TestOpenFirst(t *testing.T) {
	list := append(wrongSealed(), forPlain("a"), forPlain(""), sealed(6, k(62, 2), "a"), sealed(8, k(62, 2), "a"), sealed(7, k(5, 5), "a"))
	for _, s := range list {
		for _, m := range noCards() {
			wantShut(t, m, s, api.ErrCard)
		}
		for _, m := range []api.Member{out(0, 1), out(9, 7), out(255, 200)} {
			wantShut(t, m, s, api.ErrOut)
		}
		for _, m := range []api.Member{fresh(), behind(fresh(), 8), behind(fresh(), 200), waiting(0, 0, 1, k(62, 2)), waiting(9, 37, 7, k(62, 2))} {
			wantShut(t, m, s, api.ErrGap)
		}
	}
}

// P17.1: what is no right message's is told so, ahead of its epoch and its key.
func TestOpenWrongSealed(t *testing.T) {
	for _, s := range wrongSealed() {
		for _, m := range []api.Member{plain(), behind(plain(), 8), behind(plain(), 200)} {
			wantShut(t, m, s, api.ErrWire)
		}
		wantShut(t, standing(0, 0, 1, k(1, 0), k(1, 0), k(1, 0), k(1, 0)), s, api.ErrWire)
		wantShut(t, standing(255, 63, 200, k(1, 0), k(1, 0), k(1, 0), k(62, 2)), s, api.ErrWire)
	}
}

// P17.1: the epoch is told ahead of the key, whether it is the group key or not.
func TestOpenOtherEpoch(t *testing.T) {
	for _, under := range append(otherKeys(), k(62, 2)) {
		for _, text := range []string{"", "a", strings.Repeat("x", 64)} {
			for epoch := 1; epoch < 7; epoch++ {
				wantShut(t, plain(), sealed(epoch, under, text), api.ErrOld)
				wantShut(t, behind(plain(), 8), sealed(epoch, under, text), api.ErrOld)
			}
			for epoch := 8; epoch <= 200; epoch++ {
				wantShut(t, plain(), sealed(epoch, under, text), api.ErrAhead)
				wantShut(t, behind(plain(), 200), sealed(epoch, under, text), api.ErrAhead)
			}
		}
	}
}

// P17.1: no other key will do: none that gives the group key, none that it gives, none of the others that the device holds.
func TestOpenOtherKey(t *testing.T) {
	for _, under := range otherKeys() {
		for _, text := range []string{"", "a", strings.Repeat("x", 64)} {
			wantShut(t, plain(), sealed(7, under, text), api.ErrOpen)
			wantShut(t, behind(plain(), 8), sealed(7, under, text), api.ErrOpen)
		}
	}
	for n := range 256 {
		if n != 2 {
			wantShut(t, plain(), sealed(7, k(62, n), "a"), api.ErrOpen)
		}
	}
	for base := 1; base <= 65535; base++ {
		if base != 62 {
			wantShut(t, plain(), sealed(7, k(base, 2), "a"), api.ErrOpen)
		}
	}
	wantOpen(t, plain(), forPlain("a"), "a", api.OK)
}

// P17.1: every epoch of a device with every epoch of a text.
func TestEveryEpoch(t *testing.T) {
	for own := -1; own < 203; own++ {
		m := standing(3, 4, own, k(5, 6), k(1, 0), k(2, 0), k(3, 0))
		if within(own, 1, 200) {
			wantSeal(t, m, "a", sealed(own, k(3, 0), "a"), api.OK)
		} else {
			wantUnsealed(t, m, "a", api.ErrCard)
		}
		for epoch := -1; epoch < 203; epoch++ {
			s := sealed(epoch, k(3, 0), "a")
			switch {
			case !within(own, 1, 200):
				wantShut(t, m, s, api.ErrCard)
			case !within(epoch, 1, 200):
				wantShut(t, m, s, api.ErrWire)
			case epoch < own:
				wantShut(t, m, s, api.ErrOld)
			case epoch > own:
				wantShut(t, m, s, api.ErrAhead)
			default:
				wantOpen(t, m, s, "a", api.OK)
			}
		}
	}
}

// P17.1: states around every bound, with any one number another one.
func TestStatesAround(t *testing.T) {
	kinds := map[int]int{}
	for _, m := range append(rightStates(), otherStates()...) {
		for _, text := range []string{"", "a", strings.Repeat("x", 64), strings.Repeat("x", 65)} {
			wantSealAsModel(t, m, text)
			wantOpenAsModel(t, m, sealed(m.Epoch, m.Path[2], text))
			wantOpenAsModel(t, m, forPlain(text))
			wantOpenAsModel(t, m, sealed(200, m.Path[2], text))
			wantOpenAsModel(t, m, sealed(m.Epoch, m.Leaf, text))
		}
		wantOpenAsModel(t, m, api.Sealed{})
		kinds[modelKind(m)]++
	}
	for kind := -1; kind <= 3; kind++ {
		if kinds[kind] < 10 {
			t.Errorf("the kind %d comes only %d times", kind, kinds[kind])
		}
	}
}

// P17.1: sealed texts with any one number another one.
func TestSealedAround(t *testing.T) {
	states := append(rightStates(), noCards()...)
	for _, text := range []string{"", "a", strings.Repeat("x", 64), strings.Repeat("x", 65)} {
		for _, n := range edgeNumbers() {
			for i := range numbersIn(&api.Sealed{}) {
				for _, s := range []api.Sealed{forPlain(text), sealed(200, k(65535, 255), text), sealed(1, k(1, 0), text)} {
					*numbersIn(&s)[i] = n
					for _, m := range states {
						wantOpenAsModel(t, m, s)
					}
				}
			}
		}
	}
}

// P17.1: what is sealed is the Sealed of a right message: it goes through its bytes, and is opened behind them.
func TestThroughBytes(t *testing.T) {
	for _, m := range rightStates() {
		if modelKind(m) != 3 {
			continue
		}
		for _, text := range oddTexts() {
			bytes, e := wire.Encode(api.Message{Kind: api.KindData, Sealed: says(t, m, text)})
			if e != api.OK {
				t.Fatalf("Encode of %q = %d", text, e)
			}
			message, e := wire.Decode(bytes)
			if e != api.OK {
				t.Fatalf("Decode of %q = %d", text, e)
			}
			wantOpen(t, m, message.Sealed, text, api.OK)
		}
	}
}

// row is a row of trees, each a step behind the one before, with the messages that led there (at the place 0: none).
type row struct {
	trees    []api.Tree
	messages []api.Rekey
}

func (one *row) add(t *testing.T, b api.Batch) {
	t.Helper()
	next, r := step(t, one.trees[len(one.trees)-1], b)
	one.trees, one.messages = append(one.trees, next), append(one.messages, r)
}

// rowOf has just these steps.
func rowOf(t *testing.T, batches ...api.Batch) row {
	t.Helper()
	one := row{trees: []api.Tree{keytree.Start()}, messages: []api.Rekey{{}}}
	for _, b := range batches {
		one.add(t, b)
	}
	return one
}

// chanceBatch fits the tree: so many leave and join of a hundred, as far as there are seats; who leaves may come again later.
func chanceBatch(chance *rand.Rand, tree api.Tree, leaves, joins int) api.Batch {
	var b api.Batch
	on, free := map[int]int{}, 0
	for _, entry := range tree.Roster {
		if entry.Base == 0 {
			free++
			continue
		}
		on[entry.Who] = 1
		if chance.Intn(100) < leaves {
			b.Leaves = append(b.Leaves, entry.Who)
			free++
		}
	}
	for _, who := range chance.Perm(256) {
		if on[who] == 0 && len(b.Joins) < free && chance.Intn(100) < joins {
			b.Joins = append(b.Joins, who)
		}
	}
	return b
}

// chanceRow has steps with nobody, with few and with many.
func chanceRow(t *testing.T, seed int64, steps int) row {
	t.Helper()
	chance := rand.New(rand.NewSource(seed))
	one := rowOf(t)
	shares := []int{0, 0, 0, 1, 3, 10, 40}
	for range steps {
		one.add(t, chanceBatch(chance, one.trees[len(one.trees)-1], shares[chance.Intn(7)], shares[chance.Intn(6)]))
	}
	return one
}

// people are who is on, rising by their slots.
func people(tree api.Tree) []int {
	var list []int
	for _, entry := range tree.Roster {
		if entry.Base != 0 {
			list = append(list, entry.Who)
		}
	}
	return list
}

// P17.2: at each tree of a row everybody opens what anybody there seals, and it is the text, under the tree's root key.
func TestInStep(t *testing.T) {
	opened := 0
	texts := oddTexts()
	for seed := range int64(3) {
		for i, tree := range chanceRow(t, 170+seed, 30).trees {
			for n, from := range people(tree) {
				text := texts[(i*64+n)%len(texts)]
				s := says(t, stands(t, tree, from), text)
				if s != sealed(i, tree.Keys[0], text) {
					t.Fatalf("%d at the epoch %d seals %+v", from, i, s)
				}
				for _, to := range people(tree) {
					wantOpen(t, stands(t, tree, to), s, text, api.OK)
					opened++
				}
			}
		}
	}
	if opened < 5000 {
		t.Errorf("only %d are opened", opened)
	}
}

// P17.2: at a full tree, each of the 64 to each of the others; and one who is alone to itself.
func TestFullAndAlone(t *testing.T) {
	var all []int
	for slot := range 64 {
		all = append(all, 255-3*slot)
	}
	one := rowOf(t, api.Batch{Joins: all}, api.Batch{}, api.Batch{Leaves: all[1:]})
	for _, tree := range one.trees[1:3] {
		for _, from := range all {
			s := says(t, stands(t, tree, from), "to all")
			for _, to := range all {
				wantOpen(t, stands(t, tree, to), s, "to all", api.OK)
			}
		}
	}
	alone := stands(t, one.trees[3], all[0])
	wantOpen(t, alone, says(t, alone, "to nobody else"), "to nobody else", api.OK)
}

// P17.2, P17.3: from the first epoch to the last one, with others who come and go all the while.
func TestAllEpochs(t *testing.T) {
	one := rowOf(t, api.Batch{Joins: []int{0, 100, 255}})
	for e := 2; e <= 200; e++ {
		if e%2 == 0 {
			one.add(t, api.Batch{Joins: []int{7}})
		} else {
			one.add(t, api.Batch{Leaves: []int{7}})
		}
	}
	for epoch := 1; epoch <= 200; epoch++ {
		s := says(t, stands(t, one.trees[epoch], 100), "at this epoch")
		for other := 1; other <= 200; other++ {
			wantHeard(t, stands(t, one.trees[other], 255), epoch, s)
		}
	}
}

// wantHeard: who stands opens what was sealed at its epoch; else it is told whether that is past or to come.
func wantHeard(t *testing.T, m api.Member, epoch int, s api.Sealed) {
	t.Helper()
	switch {
	case m.Epoch > epoch:
		wantShut(t, m, s, api.ErrOld)
	case m.Epoch < epoch:
		wantShut(t, m, s, api.ErrAhead)
	default:
		wantOpen(t, m, s, s.Text, api.OK)
	}
}

// P17.3: over rows: whoever stands at another tree, was on then or not, is told ErrOld or ErrAhead; who has just a card, of whatever tree, ErrGap; who is out ErrOut.
func TestOtherTrees(t *testing.T) {
	tried := 0
	for seed := range int64(3) {
		one := chanceRow(t, 180+seed, 20)
		for epoch, tree := range one.trees {
			if len(people(tree)) == 0 {
				continue
			}
			s := says(t, stands(t, tree, people(tree)[0]), "for this epoch")
			for other, place := range one.trees {
				for _, who := range people(place) {
					wantHeard(t, stands(t, place, who), epoch, s)
					wantShut(t, carded(t, place, who), s, api.ErrGap)
					wantShut(t, out(who, other), s, api.ErrOut)
					tried++
				}
			}
		}
	}
	if tried < 5000 {
		t.Errorf("only %d tried", tried)
	}
}

// P17.3: a row by hand: who left, who came later, who came back, who has its card and hasn't heard the message yet.
func TestLeaversAndJoiners(t *testing.T) {
	one := rowOf(t, api.Batch{Joins: []int{1, 2, 3}}, api.Batch{Leaves: []int{1}}, api.Batch{Joins: []int{9}}, api.Batch{Joins: []int{1}})
	var said []api.Sealed
	for _, tree := range one.trees[1:] {
		said = append(said, says(t, stands(t, tree, 2), "between us"))
	}
	// The first one leaves: out behind the message, and at the old epoch if it doesn't hear it.
	stayed := stands(t, one.trees[1], 1)
	left, e := member.Apply(stayed, one.messages[2])
	if e != api.OK || member.Kind(left) != 1 {
		t.Fatal(left, e)
	}
	wantOpen(t, stayed, said[0], "between us", api.OK)
	wantShut(t, stayed, said[1], api.ErrAhead)
	for _, s := range said {
		wantShut(t, left, s, api.ErrOut)
	}
	wantUnsealed(t, left, "I am back", api.ErrOut)
	// The joiner has its card, and then hears the message.
	joiner := carded(t, one.trees[3], 9)
	for _, s := range said {
		wantShut(t, joiner, s, api.ErrGap)
	}
	wantUnsealed(t, joiner, "hello", api.ErrGap)
	joiner, e = member.Apply(joiner, one.messages[3])
	if e != api.OK {
		t.Fatal(e)
	}
	wantShut(t, joiner, said[0], api.ErrOld)
	wantShut(t, joiner, said[1], api.ErrOld)
	wantOpen(t, joiner, said[2], "between us", api.OK)
	wantShut(t, joiner, said[3], api.ErrAhead)
	wantOpen(t, stands(t, one.trees[3], 3), says(t, joiner, "hello"), "hello", api.OK)
	// The first one comes back: what was said while it was away stays shut.
	back := stands(t, one.trees[4], 1)
	for _, s := range said[:3] {
		wantShut(t, back, s, api.ErrOld)
	}
	wantOpen(t, back, said[3], "between us", api.OK)
}

// P3, P9, P17.2, P17.3: devices that hear any of the messages, in any order, and recover now and then: what one seals is under its epoch's root key, and of all devices just those with a path at that epoch open it.
func TestDevices(t *testing.T) {
	chance := rand.New(rand.NewSource(172))
	seen := map[api.Errno]int{}
	for seed := range int64(4) {
		one := chanceRow(t, 190+seed, 40)
		devices := map[int]api.Member{}
		for i := 1; i < len(one.trees); i++ {
			hear(t, chance, one, i, devices)
			// By the people's numbers, so that the same chances come each time.
			for _, from := range slices.Sorted(maps.Keys(devices)) {
				m := devices[from]
				if modelKind(m) != 3 || chance.Intn(8) > 0 {
					wantSealAsModel(t, m, "hello")
					continue
				}
				wantSeal(t, m, "hello", sealed(m.Epoch, one.trees[m.Epoch].Keys[0], "hello"), api.OK)
				s := says(t, m, "hello")
				for to, other := range devices {
					_, e := data.Open(other, s)
					if want := heard(other, m.Epoch); e != want {
						t.Fatalf("what %d says at the epoch %d: %d to %d, %+v; want %d", from, m.Epoch, e, to, other, want)
					}
					seen[e]++
				}
			}
		}
	}
	for _, e := range []api.Errno{api.OK, api.ErrOut, api.ErrGap, api.ErrOld, api.ErrAhead} {
		if seen[e] < 100 {
			t.Errorf("%d is answered only %d times", e, seen[e])
		}
	}
}

// hear is the step i of the row: cards are handed, each device hears some of the late messages, and some ask.
func hear(t *testing.T, chance *rand.Rand, one row, i int, devices map[int]api.Member) {
	t.Helper()
	for _, seat := range one.messages[i].Joins {
		devices[seat.Who] = carded(t, one.trees[i], seat.Who)
	}
	for who := range 256 {
		m, ok := devices[who]
		if !ok {
			continue
		}
		for range chance.Intn(4) {
			m, _ = member.Apply(m, one.messages[max(1, i-chance.Intn(3))])
		}
		if q, e := recovery.Ask(m); e == api.OK && recovery.Needs(m) && chance.Intn(4) == 0 {
			if p, e := recovery.Answer(one.trees[i], q); e == api.OK {
				m, _ = recovery.Take(m, p)
			}
		}
		devices[who] = m
	}
}

// heard is what a device is told of a text of this epoch, if both are the row's.
func heard(m api.Member, epoch int) api.Errno {
	e := modelStands(m)
	switch {
	case e != api.OK:
		return e
	case epoch < m.Epoch:
		return api.ErrOld
	case epoch > m.Epoch:
		return api.ErrAhead
	}
	return api.OK
}

// known has of each name the least step that somebody has.
type known map[int]int

func (n known) has(x api.Key) bool {
	least, ok := n[x.Base]
	return ok && least <= x.Step
}

func (n known) add(x api.Key) bool {
	if n.has(x) {
		return false
	}
	n[x.Base] = x.Step
	return true
}

// derived is all that comes of the keys and the boxes.
func derived(keys []api.Key, boxes []api.Box) known {
	n := known{}
	for _, x := range keys {
		n.add(x)
	}
	for more := true; more; {
		more = false
		for _, box := range boxes {
			if n.has(box.Under) && n.add(box.Load) {
				more = true
			}
		}
	}
	return n
}

// traffic is what is sent if at each epoch everybody says something: the boxes of all messages, of which a text has none, and a text of each epoch.
func traffic(t *testing.T, one row) ([]api.Box, map[int]api.Sealed) {
	t.Helper()
	var boxes []api.Box
	texts := map[int]api.Sealed{}
	for i, tree := range one.trees {
		boxes = append(boxes, wire.Boxes(api.Message{Kind: api.KindRekey, Rekey: one.messages[i]})...)
		for _, who := range people(tree) {
			texts[i] = says(t, stands(t, tree, who), "secret")
			boxes = append(boxes, wire.Boxes(api.Message{Kind: api.KindData, Sealed: texts[i]})...)
		}
	}
	return boxes, texts
}

// stayed: was the person on in every epoch from that of its state to this one?
func stayed(trees []api.Tree, m api.Member, epoch int) bool {
	for e := m.Epoch; e <= epoch; e++ {
		if !slices.Contains(people(trees[e]), m.Who) {
			return false
		}
	}
	return m.Epoch <= epoch
}

// wantSecret: P4: who has these devices' keys, and all that was sent, reads the texts of just the epochs to which one of them stayed, and makes texts that are opened at just these.
func wantSecret(t *testing.T, one row, boxes []api.Box, texts map[int]api.Sealed, opened []api.Member) {
	t.Helper()
	var keys []api.Key
	for _, m := range opened {
		keys = append(append(keys, m.Leaf), m.Path[:]...)
	}
	n := derived(keys, boxes)
	for epoch, s := range texts {
		want := slices.ContainsFunc(opened, func(m api.Member) bool { return stayed(one.trees, m, epoch) })
		if n.has(s.Under) != want {
			t.Fatalf("opened %+v: the text of the epoch %d: read %v", opened, epoch, !want)
		}
		reader := stands(t, one.trees[epoch], people(one.trees[epoch])[0])
		if fooled(t, reader, n, epoch) != want {
			t.Fatalf("opened %+v: a forged text of the epoch %d: taken %v", opened, epoch, !want)
		}
	}
}

// fooled: does the device open a text under one of the known keys?
func fooled(t *testing.T, m api.Member, n known, epoch int) bool {
	t.Helper()
	for base, least := range n {
		for step := least; step <= 255; step++ {
			text, e := data.Open(m, sealed(epoch, k(base, step), "forged"))
			if e == api.OK && text == "forged" {
				return true
			}
			if e != api.ErrOpen || text != "" {
				t.Fatalf("a forged text under {%d %d}: %q, %d", base, step, text, e)
			}
		}
	}
	return false
}

// P4: texts give nothing away by themselves; who opened a device reads, and is taken for a member, from then on till its person left.
func TestSecrecy(t *testing.T) {
	chance := rand.New(rand.NewSource(173))
	count := 0
	for seed := range int64(4) {
		one := chanceRow(t, 200+seed, 15)
		boxes, texts := traffic(t, one)
		wantSecret(t, one, boxes, texts, nil)
		for range 8 {
			var opened []api.Member
			for range 1 + chance.Intn(2) {
				tree := one.trees[1+chance.Intn(15)]
				if on := people(tree); len(on) > 0 {
					opened = append(opened, stands(t, tree, on[chance.Intn(len(on))]))
				}
			}
			wantSecret(t, one, boxes, texts, opened)
			count += len(opened)
		}
	}
	if count < 20 {
		t.Errorf("only %d opened", count)
	}
}

// chanceState is most often a right one near the ordinary numbers.
func chanceState(chance *rand.Rand, numbers []int) api.Member {
	few := func() api.Key { return k(1+chance.Intn(2), []int{0, 1, 255}[chance.Intn(3)]) }
	m := waiting(chance.Intn(3), chance.Intn(3), 1+chance.Intn(3), few())
	switch chance.Intn(12) {
	case 0:
		return out(chance.Intn(3), 1+chance.Intn(4))
	case 1:
	default:
		m.Has, m.Path = true, api.Path{few(), few(), few()}
	}
	if chance.Intn(3) == 0 {
		m.Behind = m.Epoch + 1 + chance.Intn(3)
	}
	if chance.Intn(8) == 0 {
		*numbersOf(&m)[chance.Intn(12)] = numbers[chance.Intn(len(numbers))]
	}
	return m
}

// chanceText is of any bytes, and most often not too long.
func chanceText(chance *rand.Rand) string {
	text := make([]byte, []int{0, 1, 5, 63, 64, 65}[chance.Intn(6)])
	chance.Read(text)
	return string(text)
}

// P1, P17.1: whatever is handed in is answered, and as the chapter says it; what was sealed is opened.
func TestAnything(t *testing.T) {
	chance := rand.New(rand.NewSource(174))
	numbers := edgeNumbers()
	sealing, opening := map[api.Errno]int{}, map[api.Errno]int{}
	for range 300000 {
		m, text := chanceState(chance, numbers), chanceText(chance)
		status := wantSealAsModel(t, m, text)
		sealing[status]++
		if status == api.OK {
			wantOpen(t, m, says(t, m, text), text, api.OK)
		}
		s := sealed(1+chance.Intn(3), k(1+chance.Intn(2), chance.Intn(2)), text)
		if chance.Intn(8) == 0 {
			*numbersIn(&s)[chance.Intn(3)] = numbers[chance.Intn(len(numbers))]
		}
		opening[wantOpenAsModel(t, m, s)]++
	}
	for _, e := range []api.Errno{api.OK, api.ErrCard, api.ErrOut, api.ErrGap, api.ErrText} {
		if sealing[e] < 1000 {
			t.Errorf("Seal answers %d only %d times", e, sealing[e])
		}
	}
	for _, e := range []api.Errno{api.OK, api.ErrCard, api.ErrOut, api.ErrGap, api.ErrWire, api.ErrOld, api.ErrAhead, api.ErrOpen} {
		if opening[e] < 1000 {
			t.Errorf("Open answers %d only %d times", e, opening[e])
		}
	}
}

// P1: nothing but numbers far out.
func TestFarNumbers(t *testing.T) {
	long := strings.Repeat("x", 65)
	for _, n := range farNumbers() {
		for _, o := range farNumbers() {
			m := api.Member{Who: n, Slot: o, Epoch: n, Leaf: k(o, n), Path: api.Path{k(n, o), k(o, n), k(n, n)}, Behind: o}
			for flags := range 4 {
				m.Has, m.Out = flags&1 == 1, flags&2 == 2
				wantUnsealed(t, m, "a", api.ErrCard)
				wantUnsealed(t, m, long, api.ErrCard)
				wantShut(t, m, sealed(n, k(n, n), "a"), api.ErrCard)
			}
			wantShut(t, plain(), sealed(n, k(o, n), "a"), api.ErrWire)
			wantShut(t, out(9, 7), sealed(n, k(o, n), long), api.ErrOut)
			wantShut(t, fresh(), sealed(n, k(o, n), long), api.ErrGap)
		}
	}
}

// R6: an answer hangs on nothing that was asked before it, refused or not.
func TestNothingKept(t *testing.T) {
	states := []api.Member{{}, plain(), behind(plain(), 9), fresh(), out(9, 7), {Who: -1}, standing(9, 37, 8, k(50, 5), k(60, 3), k(61, 4), k(62, 3))}
	texts := []api.Sealed{{}, forPlain("a"), forPlain("other"), sealed(8, k(62, 3), "a"), sealed(7, k(62, 3), "a"), forPlain(strings.Repeat("x", 65))}
	for _, first := range states {
		for _, before := range texts {
			data.Seal(first, before.Text)
			data.Open(first, before)
			wantSeal(t, plain(), "a", forPlain("a"), api.OK)
			wantOpen(t, plain(), forPlain("a"), "a", api.OK)
			for _, m := range states {
				for _, s := range texts {
					wantSealAsModel(t, m, s.Text)
					wantOpenAsModel(t, m, s)
				}
			}
		}
	}
}
