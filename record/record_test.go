package record_test

import (
	"fmt"
	"math"
	"math/rand"
	"slices"
	"strconv"
	"strings"
	"testing"

	"coterie/api"
	"coterie/keytree"
	"coterie/plan"
	"coterie/record"
	"coterie/roster"
)

// firstBytes are those of the chapter's first example.
const firstBytes = "\x01\x00\x19\x00\x0c\x04\x00\x20\x40\xc2"

func k(base, step int) api.Key { return api.Key{Base: base, Step: step} }

func leave(who ...int) api.Batch { return api.Batch{Leaves: who} }

func join(who ...int) api.Batch { return api.Batch{Joins: who} }

func move(leaves, joins []int) api.Batch { return api.Batch{Leaves: leaves, Joins: joins} }

// made is a record; its seats are told as who and slot in turn.
func made(epoch, fresh int, leaves []int, seats ...int) api.Record {
	r := api.Record{Epoch: epoch, Fresh: fresh, Leaves: leaves}
	for i := 0; i < len(seats); i += 2 {
		r.Joins = append(r.Joins, api.Seat{Who: seats[i], Slot: seats[i+1]})
	}
	return r
}

func first() api.Record { return made(1, 25, nil, 1, 0, 2, 1, 3, 2) }

// people are n numbers, from one on, so far apart.
func people(from, n, apart int) []int {
	var list []int
	for i := range n {
		list = append(list, from+i*apart)
	}
	return list
}

// seated are n seats with people and slots from some on; beyond the last one they begin again.
func seated(n, who, slot int) []api.Seat {
	var list []api.Seat
	for i := range n {
		list = append(list, api.Seat{Who: (who + i) % 256, Slot: (slot + i) % 64})
	}
	return list
}

// bare is a tree without a taken seat, with the keys {v + 1, step}.
func bare(epoch, fresh, step int) api.Tree {
	tree := api.Tree{Epoch: epoch, Fresh: fresh}
	for v := range tree.Keys {
		tree.Keys[v] = k(v+1, step)
	}
	return tree
}

// small is chapter 11's T, to which the first record leads.
func small() api.Tree {
	tree := bare(1, 25, 1)
	for i := range 3 {
		tree.Roster[i] = api.Entry{Who: i + 1, Base: 22 + i, Since: 1}
	}
	return tree
}

// full has all 64 seats taken: at the slot s sits 4 * s with the name 1000 + s, let in at the epoch 1; the keys are {100 + v, step}, and names are given from 2000 on.
func full(epoch, step int) api.Tree {
	tree := api.Tree{Epoch: epoch, Fresh: 2000}
	for v := range tree.Keys {
		tree.Keys[v] = k(100+v, step)
	}
	for s := range tree.Roster {
		tree.Roster[s] = api.Entry{Who: 4 * s, Base: 1000 + s, Since: 1}
	}
	return tree
}

// at is the tree with another Fresh, on with another Epoch.
func at(tree api.Tree, fresh int) api.Tree {
	tree.Fresh = fresh
	return tree
}

func on(tree api.Tree, epoch int) api.Tree {
	tree.Epoch = epoch
	return tree
}

// fullPeople are all that sit in full; others are as many who don't.
func fullPeople() []int { return people(0, 64, 4) }

func others() []int { return people(3, 64, 4) }

// farNumbers are beyond every limit, and among them are those that would look like a number in bounds if a conversion or a field cut them.
func farNumbers() []int {
	return []int{
		-1, -2, -21, -63, -64, -127, -128, -255, -256, -32768, -65535, -65536 + 22, -1 << 31, -1<<31 + 22, -1 << 32, -1<<32 + 1, math.MinInt, math.MinInt + 1, math.MinInt + 22,
		65536, 65536 + 1, 65536 + 22, 1<<31 - 1, 1 << 31, 1<<31 + 22, 1<<32 - 1, 1 << 32, 1<<32 + 1, 1<<32 + 22, 1 << 62,
		math.MaxInt - 85, math.MaxInt - 21, math.MaxInt - 1, math.MaxInt,
	}
}

// digits are the number's bits, told as noughts and ones.
func digits(n, width int) string { return fmt.Sprintf("%0*b", width, n) }

// modelBits are those of the fields as the chapter names them; the numbers need only be of their widths.
func modelBits(r api.Record) string {
	text := digits(r.Epoch, 8) + digits(r.Fresh, 16) + digits(len(r.Leaves), 7)
	for _, who := range r.Leaves {
		text += digits(who, 8)
	}
	text += digits(len(r.Joins), 7)
	for _, seat := range r.Joins {
		text += digits(seat.Who, 8) + digits(seat.Slot, 6)
	}
	return text
}

// bytesOf are the bytes of told bits; noughts fill the last one.
func bytesOf(told string) string {
	var text []byte
	for told != "" {
		n := min(8, len(told))
		eight, _ := strconv.ParseUint(told[:n]+strings.Repeat("0", 8-n), 2, 8)
		text, told = append(text, byte(eight)), told[n:]
	}
	return string(text)
}

// bitsOf are the text's bits, told.
func bitsOf(text string) string {
	told := ""
	for i := range len(text) {
		told += digits(int(text[i]), 8)
	}
	return told
}

func modelWrite(r api.Record) string { return bytesOf(modelBits(r)) }

func modelRight(r api.Record) bool {
	within := func(n, least, most int) bool { return least <= n && n <= most }
	good := within(r.Epoch, 1, 200) && within(r.Fresh, 22, 32768) && len(r.Leaves) <= 64 && len(r.Joins) <= 64
	for _, who := range r.Leaves {
		good = good && within(who, 0, 255)
	}
	for _, seat := range r.Joins {
		good = good && within(seat.Who, 0, 255) && within(seat.Slot, 0, 63)
	}
	return good
}

// modelRead takes the numbers off the told bits, and takes nothing but what modelWrite makes of a right record.
func modelRead(text string) (api.Record, bool) {
	told := bitsOf(text)
	take := func(width int) int {
		if len(told) < width {
			return 0
		}
		n, _ := strconv.ParseInt(told[:width], 2, 64)
		told = told[width:]
		return int(n)
	}
	r := api.Record{Epoch: take(8), Fresh: take(16)}
	for n := take(7); len(r.Leaves) < n; {
		r.Leaves = append(r.Leaves, take(8))
	}
	for n := take(7); len(r.Joins) < n; {
		who := take(8)
		r.Joins = append(r.Joins, api.Seat{Who: who, Slot: take(6)})
	}
	if !modelRight(r) || modelWrite(r) != text {
		return api.Record{}, false
	}
	return r, true
}

func same(a, b api.Record) bool {
	return a.Epoch == b.Epoch && a.Fresh == b.Fresh && slices.Equal(a.Leaves, b.Leaves) && slices.Equal(a.Joins, b.Joins)
}

func sameRekey(a, b api.Rekey) bool {
	return a.Epoch == b.Epoch && slices.Equal(a.Leaves, b.Leaves) && slices.Equal(a.Joins, b.Joins) && slices.Equal(a.Items, b.Items)
}

// clone is a record of new memory.
func clone(r api.Record) api.Record {
	r.Leaves, r.Joins = slices.Clone(r.Leaves), slices.Clone(r.Joins)
	return r
}

// wantBytes: the record is written as these bytes, and read again of them.
func wantBytes(t *testing.T, r api.Record, want string) {
	t.Helper()
	if text, e := record.Write(r); text != want || e != api.OK {
		t.Fatalf("Write(%v) = %x, %d; want %x", r, text, e, want)
	}
	if got, e := record.Read(want); !same(got, r) || e != api.OK {
		t.Fatalf("Read(%x) = %v, %d; want %v", want, got, e, r)
	}
}

func wantUnwritten(t *testing.T, r api.Record) {
	t.Helper()
	if text, e := record.Write(r); text != "" || e != api.ErrRecord {
		t.Fatalf("Write(%v) = %x, %d", r, text, e)
	}
}

func wantUnread(t *testing.T, text string) {
	t.Helper()
	if r, e := record.Read(text); !same(r, api.Record{}) || e != api.ErrRecord {
		t.Fatalf("Read(%x) = %v, %d", text, r, e)
	}
}

// P13.1: the chapter's example 1.
func TestFirstBytes(t *testing.T) { wantBytes(t, first(), firstBytes) }

// P13.1: some records' bytes by hand.
func TestBytesByHand(t *testing.T) {
	wantBytes(t, made(1, 22, nil), "\x01\x00\x16\x00\x00")
	wantBytes(t, made(200, 32768, nil), "\xc8\x80\x00\x00\x00")
	wantBytes(t, made(200, 32767, nil), "\xc8\x7f\xff\x00\x00")
	// 00000001 0000000000010110 0000001 11111111 0000000
	wantBytes(t, made(1, 22, []int{255}), "\x01\x00\x16\x03\xfe\x00")
	// 00000010 0000000100000000 0000010 00000000 10000000 0000001 11111111 111111, and four noughts
	wantBytes(t, made(2, 256, []int{0, 128}, 255, 63), "\x02\x01\x00\x04\x01\x00\x07\xff\xf0")
	// 00000001 0000000000010111 0000000 0000001 00000000 000000, and four noughts
	wantBytes(t, made(1, 23, nil, 0, 0), "\x01\x00\x17\x00\x04\x00\x00")
}

// chanceRecord is a right one, with lists of any length, in any order, and with doubles.
func chanceRecord(chance *rand.Rand, leaves, joins int) api.Record {
	r := api.Record{Epoch: 1 + chance.Intn(200), Fresh: 22 + chance.Intn(32768-22+1)}
	for range leaves {
		r.Leaves = append(r.Leaves, chance.Intn(256))
	}
	for range joins {
		r.Joins = append(r.Joins, api.Seat{Who: chance.Intn(256), Slot: chance.Intn(64)})
	}
	return r
}

// edgeRecords are right, and each has a number or a list that is just at its bound.
func edgeRecords() []api.Record {
	list := []api.Record{
		first(), made(1, 22, nil), made(200, 32768, nil), made(1, 32768, nil), made(200, 22, nil),
		made(7, 40, []int{0}), made(7, 40, []int{255}), made(7, 40, []int{0, 255, 0, 255}), made(7, 40, nil, 0, 0), made(7, 40, nil, 255, 63), made(7, 40, nil, 0, 63, 255, 0),
		{Epoch: 200, Fresh: 32768, Leaves: fullPeople(), Joins: seated(64, 192, 0)},
		{Epoch: 1, Fresh: 22, Leaves: make([]int, 64), Joins: make([]api.Seat, 64)},
		{Epoch: 1, Fresh: 22, Leaves: make([]int, 64)}, {Epoch: 1, Fresh: 22, Joins: make([]api.Seat, 64)},
		{Epoch: 3, Fresh: 86, Leaves: people(192, 64, 1), Joins: seated(63, 0, 1)}, {Epoch: 3, Fresh: 86, Leaves: people(193, 63, 1), Joins: seated(64, 255, 63)},
		made(9, 99, []int{5, 5, 5}, 5, 5, 5, 5),
	}
	for epoch := 1; epoch <= 200; epoch++ {
		list = append(list, made(epoch, 22+epoch, nil), made(epoch, 32768-epoch, []int{epoch}, epoch, epoch%64))
	}
	for who := range 256 {
		list = append(list, made(1, 22, []int{who}, 255-who, who%64))
	}
	return list
}

// rightRecords are the edges, and for all lengths of the lists some others.
func rightRecords() []api.Record {
	list := edgeRecords()
	chance := rand.New(rand.NewSource(131))
	for n := range 65 {
		list = append(list, chanceRecord(chance, n, 0), chanceRecord(chance, 0, n), chanceRecord(chance, n, 64-n), chanceRecord(chance, n, chance.Intn(65)))
	}
	return list
}

// P13.1, P10: each right record's bytes are its fields', and are read as the record again.
func TestThereAndBack(t *testing.T) {
	for _, r := range rightRecords() {
		wantBytes(t, r, modelWrite(r))
	}
}

// P13.1, P10: every Fresh there is.
func TestEveryFresh(t *testing.T) {
	for fresh := 22; fresh <= 32768; fresh++ {
		r := made(1+fresh%200, fresh, nil)
		wantBytes(t, r, string([]byte{byte(r.Epoch), byte(fresh >> 8), byte(fresh), 0, 0}))
	}
}

// P10: no two records have one text.
func TestNoTwoAlike(t *testing.T) {
	texts := map[string]api.Record{}
	for _, r := range rightRecords() {
		text, _ := record.Write(r)
		if other, ok := texts[text]; ok && !same(r, other) {
			t.Fatalf("%v and %v are both %x", r, other, text)
		}
		texts[text] = r
	}
}

// wrongRecords spoil the record by one number, wherever it stands, or by a list's length.
func wrongRecords(r api.Record) []api.Record {
	var list []api.Record
	spoil := func(change func(*api.Record)) {
		wrong := clone(r)
		change(&wrong)
		list = append(list, wrong)
	}
	for _, n := range append(farNumbers(), 0, 201, 202, 255, 256, 257) {
		spoil(func(wrong *api.Record) { wrong.Epoch = n })
	}
	for _, n := range append(farNumbers(), 0, 1, 20, 21, 32769, 32770, 65535) {
		spoil(func(wrong *api.Record) { wrong.Fresh = n })
	}
	for _, n := range append(farNumbers(), 256, 257, 511, 512) {
		for i := range r.Leaves {
			spoil(func(wrong *api.Record) { wrong.Leaves[i] = n })
		}
		for i := range r.Joins {
			spoil(func(wrong *api.Record) { wrong.Joins[i].Who = n })
		}
	}
	for _, n := range append(farNumbers(), 64, 65, 127, 128, 255, 256) {
		for i := range r.Joins {
			spoil(func(wrong *api.Record) { wrong.Joins[i].Slot = n })
		}
	}
	for _, n := range []int{65, 66, 100, 127, 128, 129, 192, 256, 257, 65536, 65537} {
		spoil(func(wrong *api.Record) { wrong.Leaves = make([]int, n) })
		spoil(func(wrong *api.Record) { wrong.Joins = make([]api.Seat, n) })
		spoil(func(wrong *api.Record) { wrong.Leaves = append(make([]int, n-1), r.Leaves...)[:n-1] })
	}
	return slices.DeleteFunc(list, modelRight)
}

// spoiled are wrong records of every kind.
func spoiled() []api.Record {
	list := []api.Record{{}, {Epoch: 1}, {Fresh: 22}, {Fresh: 25}, {Epoch: 201, Fresh: 32769}}
	for _, r := range []api.Record{first(), made(1, 22, nil), made(200, 32768, []int{0}), made(7, 40, []int{1, 2, 255}, 9, 0, 8, 63)} {
		list = append(list, wrongRecords(r)...)
	}
	return append(list, wrongRecords(api.Record{Epoch: 9, Fresh: 99, Leaves: fullPeople(), Joins: seated(64, 0, 0)})...)
}

// P13.1: what isn't right isn't written; the chapter's example 2.
func TestWrongRecords(t *testing.T) {
	wantUnwritten(t, made(0, 25, nil))
	wantUnwritten(t, made(1, 25, make([]int, 65)))
	wantUnwritten(t, made(1, 25, []int{256}))
	wantUnwritten(t, made(1, 25, nil, 256, 0))
	list := spoiled()
	if len(list) < 5000 {
		t.Fatalf("only %d records", len(list))
	}
	for _, r := range list {
		wantUnwritten(t, r)
	}
}

// P13.1: the chapter's example 2, and texts that are cut short or longer.
func TestOtherLengths(t *testing.T) {
	wantUnread(t, "")
	wantUnread(t, firstBytes+"\x00")
	for i, r := range rightRecords() {
		text := modelWrite(r)
		for n := range len(text) {
			if i < 40 || n >= len(text)-2 {
				wantUnread(t, text[:n])
			}
		}
		for _, more := range []string{"\x00", "\x01", "\x80", "\xff", "\x00\x00", text, strings.Repeat("\x00", 100)} {
			wantUnread(t, text+more)
		}
		wantUnread(t, "\x00"+text)
	}
	wantUnread(t, firstBytes+strings.Repeat("\x00", 1<<20))
}

// P13.1: bits behind the last field are noughts.
func TestBitsBehind(t *testing.T) {
	count := 0
	for _, r := range rightRecords() {
		told := modelBits(r)
		fill := (8 - len(told)%8) % 8
		for set := 1; set < 1<<fill; set++ {
			wantUnread(t, bytesOf(told+digits(set, fill)))
			count++
		}
	}
	if count < 1000 {
		t.Errorf("only %d texts", count)
	}
}

// P13.1: texts whose fields all are there, but make no right record.
func TestWrongFields(t *testing.T) {
	for _, r := range []api.Record{first(), made(9, 99, []int{4, 3}), made(200, 32768, nil)} {
		for epoch := range 256 {
			other := clone(r)
			if other.Epoch = epoch; epoch < 1 || epoch > 200 {
				wantUnread(t, modelWrite(other))
			}
		}
		for fresh := range 65536 {
			other := clone(r)
			if other.Fresh = fresh; fresh < 22 || fresh > 32768 {
				wantUnread(t, modelWrite(other))
			}
		}
	}
	for n := 65; n < 128; n++ {
		wantUnread(t, modelWrite(made(1, 22, make([]int, n))))
		wantUnread(t, modelWrite(made(1, 22, people(100, n, 1))))
		wantUnread(t, modelWrite(api.Record{Epoch: 1, Fresh: 22, Joins: make([]api.Seat, n)}))
		wantUnread(t, modelWrite(api.Record{Epoch: 1, Fresh: 22, Leaves: fullPeople(), Joins: seated(n, 0, 0)}))
		wantUnread(t, modelWrite(api.Record{Epoch: 1, Fresh: 22, Leaves: people(0, n, 1), Joins: seated(n, 0, 0)}))
	}
}

// wantRead: the text is read as the model does.
func wantRead(t *testing.T, text string) bool {
	t.Helper()
	want, ok := modelRead(text)
	if !ok {
		wantUnread(t, text)
		return false
	}
	wantBytes(t, want, text)
	return true
}

// P13.1, P10: with any one bit turned, a text is no record or another one's.
func TestTurnedBits(t *testing.T) {
	taken := 0
	for _, r := range edgeRecords()[:20] {
		text := modelWrite(r)
		for place := range 8 * len(text) {
			turned := []byte(text)
			turned[place/8] ^= 0x80 >> (place % 8)
			if wantRead(t, string(turned)) {
				taken++
			}
			if again, e := record.Read(string(turned)); e == api.OK && same(again, r) {
				t.Fatalf("%x and %x are both %v", text, turned, r)
			}
		}
	}
	if taken < 100 {
		t.Errorf("only %d texts were taken", taken)
	}
}

// P13.1, P10, P1: any texts: what is taken is what Write makes of it, and nothing else is.
func TestAnyTexts(t *testing.T) {
	chance := rand.New(rand.NewSource(132))
	taken := 0
	for i := range 30000 {
		text := make([]byte, chance.Intn(24))
		chance.Read(text)
		if len(text) > 4 && i%3 > 0 {
			// The lists' lengths are small, and the other fields right, so that some are taken.
			text[0], text[1], text[3] = byte(1+chance.Intn(200)), 1, byte(chance.Intn(4))<<1
		}
		if len(text) > 4 && i%3 == 1 {
			text[3], text[4] = 0, byte(chance.Intn(16))<<2
		}
		if wantRead(t, string(text)) {
			taken++
		}
	}
	for one := range 256 {
		wantUnread(t, string([]byte{byte(one)}))
		for other := range 256 {
			wantUnread(t, string([]byte{byte(one), byte(other)}))
		}
	}
	if taken < 100 {
		t.Errorf("only %d texts were taken", taken)
	}
}

// isOn: is the person on, by itself?
func isOn(tree api.Tree, who int) bool {
	return slices.ContainsFunc(tree.Roster[:], func(entry api.Entry) bool { return entry.Base != 0 && entry.Who == who })
}

// chanceBatch fits the tree: so many leave and join of a hundred, as far as there are seats, in any order.
func chanceBatch(chance *rand.Rand, tree api.Tree, leaves, joins int) api.Batch {
	var batch api.Batch
	free := 64 - len(roster.People(tree.Roster))
	all := chance.Perm(256)
	for _, who := range all {
		if isOn(tree, who) && chance.Intn(100) < leaves {
			batch.Leaves = append(batch.Leaves, who)
		}
	}
	for _, who := range all {
		if !isOn(tree, who) && chance.Intn(100) < joins && len(batch.Joins) < free+len(batch.Leaves) {
			batch.Joins = append(batch.Joins, who)
		}
	}
	return batch
}

// chanceTree is a right one with any names, steps, seats and people, and with room for the names of a step.
func chanceTree(chance *rand.Rand, epoch int) api.Tree {
	tree := api.Tree{Epoch: epoch, Fresh: 30000 + chance.Intn(2600)}
	names := chance.Perm(29999)
	name := func() int {
		base := names[0] + 1
		names = names[1:]
		return base
	}
	for v := range tree.Keys {
		tree.Keys[v] = k(name(), chance.Intn(epoch+1))
	}
	who, share := chance.Perm(256), chance.Intn(65)
	for s := range tree.Roster {
		if epoch > 0 && chance.Intn(64) < share {
			tree.Roster[s] = api.Entry{Who: who[s], Base: name(), Since: 1 + chance.Intn(epoch)}
		}
	}
	return tree
}

// step is one that plan doesn't refuse, with its answer and the record that it must have.
type step struct {
	tree  api.Tree
	batch api.Batch
	next  api.Tree
	m     api.Rekey
	r     api.Record
}

// gone goes the step by plan.Next.
func gone(t *testing.T, tree api.Tree, batch api.Batch) step {
	t.Helper()
	next, m, e := plan.Next(tree, batch)
	if e != api.OK {
		t.Fatalf("no step: %v of %v: %d", batch, tree, e)
	}
	return step{tree, batch, next, m, api.Record{Epoch: next.Epoch, Fresh: next.Fresh, Leaves: batch.Leaves, Joins: m.Joins}}
}

// row is a row of steps from the beginning on; how many come and go changes on the way.
func row(t *testing.T, seed int64, n int) []step {
	t.Helper()
	chance := rand.New(rand.NewSource(seed))
	tree := keytree.Start()
	var list []step
	for range n {
		shares := []int{0, 2, 5, 10, 30, 90}
		s := gone(t, tree, chanceBatch(chance, tree, shares[chance.Intn(5)], shares[chance.Intn(6)]))
		list = append(list, s)
		tree = s.next
	}
	return list
}

// smallBatches are ordinary ones for the chapter's T.
func smallBatches() []api.Batch {
	return []api.Batch{
		{}, leave(1), leave(2), leave(3), leave(1, 2), leave(3, 1), leave(2, 3, 1), join(9), join(0), join(255), join(9, 8), join(8, 9, 0, 255),
		join(people(100, 61, 1)...), move([]int{1}, []int{9}), move([]int{3}, []int{9}), move([]int{1}, []int{9, 8}), move([]int{2, 1}, []int{8, 9}),
		move([]int{3, 2, 1}, []int{9}), move([]int{3, 1, 2}, []int{4, 5, 6}), move([]int{3}, people(100, 62, 1)), move([]int{3, 1, 2}, people(100, 64, 1)),
	}
}

// fullBatches are those for a tree with all seats taken.
func fullBatches() []api.Batch {
	list := []api.Batch{
		{}, leave(0), leave(252), leave(252, 0), leave(4, 0, 12, 8), leave(0, 64, 128, 192), leave(fullPeople()...), move(fullPeople(), others()),
		move([]int{252, 0}, []int{7, 3}), move([]int{252, 128, 0}, []int{7}), move(fullPeople(), []int{255}), move(fullPeople()[:63], others()[:1]), move(fullPeople()[1:], others()[1:]),
	}
	for slot := range 64 {
		list = append(list, leave(4*slot), move([]int{4 * slot}, []int{4*slot + 3}), move([]int{4 * slot, 4 * ((slot + 21) % 64)}, []int{1}))
	}
	return list
}

// steps are ordinary ones, the edges, and those of a long row and of any trees.
func steps(t *testing.T) []step {
	t.Helper()
	var list []step
	for _, batch := range []api.Batch{{}, join(1, 2, 3), join(0), join(255), join(others()...), join(others()[:63]...)} {
		list = append(list, gone(t, keytree.Start(), batch), gone(t, bare(199, 22, 199), batch), gone(t, at(keytree.Start(), 32768-len(batch.Joins)), batch))
	}
	for _, batch := range smallBatches() {
		list = append(list, gone(t, small(), batch), gone(t, on(small(), 199), batch))
	}
	for _, batch := range fullBatches() {
		list = append(list, gone(t, full(1, 0), batch), gone(t, full(199, 199), batch), gone(t, at(full(50, 7), 32768-21-64), batch))
	}
	list = append(list, row(t, 133, 200)...)
	chance := rand.New(rand.NewSource(134))
	for i := range 150 {
		tree := chanceTree(chance, chance.Intn(200))
		list = append(list, gone(t, tree, chanceBatch(chance, tree, i%101, i*7%50)))
	}
	return list
}

// wantOf: Of answers the record, which is right and can be kept.
func wantOf(t *testing.T, tree api.Tree, batch api.Batch, want api.Record) {
	t.Helper()
	r, e := record.Of(tree, batch)
	if !same(r, want) || e != api.OK {
		t.Fatalf("Of(%v, %v) = %v, %d; want %v", tree, batch, r, e, want)
	}
	wantBytes(t, r, modelWrite(want))
}

// wantPlayed: Play answers what plan.Next answered.
func wantPlayed(t *testing.T, s step) {
	t.Helper()
	next, m, e := record.Play(s.tree, s.r)
	if next != s.next || !sameRekey(m, s.m) || e != api.OK {
		t.Fatalf("Play(%v, %v) = %v, %v, %d; want %v, %v", s.tree, s.r, next, m, e, s.next, s.m)
	}
}

// wantRefused: Play refuses, and answers zero beside the error.
func wantRefused(t *testing.T, tree api.Tree, r api.Record, want api.Errno) {
	t.Helper()
	next, m, e := record.Play(tree, r)
	if e != want || next != (api.Tree{}) || !sameRekey(m, api.Rekey{}) {
		t.Fatalf("Play(%v, %v) = %v, %v, %d; want %d", tree, r, next, m, e, want)
	}
}

// P13.2: some steps' records by hand.
func TestOfByHand(t *testing.T) {
	wantOf(t, keytree.Start(), join(1, 2, 3), first())
	wantOf(t, keytree.Start(), api.Batch{}, made(1, 22, nil))
	wantOf(t, keytree.Start(), join(255), made(1, 23, nil, 255, 0))
	wantOf(t, small(), api.Batch{}, made(2, 25, nil))
	wantOf(t, small(), leave(1), made(2, 28, []int{1}))
	wantOf(t, small(), leave(3, 1), made(2, 28, []int{3, 1}))
	wantOf(t, small(), join(9), made(2, 26, nil, 9, 3))
	wantOf(t, small(), move([]int{1}, []int{9}), made(2, 29, []int{1}, 9, 0))
	wantOf(t, small(), move([]int{3, 1}, []int{9, 0, 8}), made(2, 31, []int{3, 1}, 9, 0, 0, 2, 8, 3))
	wantOf(t, full(199, 3), leave(252, 0), made(200, 2005, []int{252, 0}))
	wantOf(t, full(1, 1), move(fullPeople(), others()), api.Record{Epoch: 2, Fresh: 2085, Leaves: fullPeople(), Joins: ownSeats(others())})
	wantOf(t, at(small(), 32768), api.Batch{}, made(2, 32768, nil))
	wantOf(t, at(small(), 32764), move([]int{1}, []int{9}), made(2, 32768, []int{1}, 9, 0))
}

// ownSeats have these people from the slot 0 on.
func ownSeats(who []int) []api.Seat {
	var list []api.Seat
	for slot, one := range who {
		list = append(list, api.Seat{Who: one, Slot: slot})
	}
	return list
}

// P13.2: the chapter's example 3, and other records by hand.
func TestPlayByHand(t *testing.T) {
	next, m, e := record.Play(keytree.Start(), first())
	if next != small() || len(m.Items) != 9 || m.Epoch != 1 || !slices.Equal(m.Joins, first().Joins) || len(m.Leaves) != 0 || e != api.OK {
		t.Errorf("%v, %v, %d", next, m, e)
	}
	wantRefused(t, small(), first(), api.ErrRecord)
	wantRefused(t, keytree.Start(), made(1, 26, nil, 1, 0, 2, 1, 3, 2), api.ErrRecord)
	wantRefused(t, keytree.Start(), made(1, 25, nil, 1, 0, 2, 1, 3, 5), api.ErrRecord)
	wantRefused(t, api.Tree{}, first(), api.ErrTree)
	next, m, e = record.Play(small(), made(2, 28, []int{1}))
	want := bare(2, 28, 2)
	want.Keys[5], want.Keys[1], want.Keys[0] = k(25, 0), k(26, 0), k(27, 0)
	want.Roster = small().Roster
	want.Roster[0] = api.Entry{}
	if next != want || len(m.Items) != 4 || !slices.Equal(m.Leaves, []api.Seat{{Who: 1}}) || e != api.OK {
		t.Errorf("%v, %v, %d", next, m, e)
	}
	next, m, e = record.Play(small(), made(2, 25, nil))
	want = bare(2, 25, 2)
	want.Roster = small().Roster
	if next != want || !sameRekey(m, api.Rekey{Epoch: 2}) || e != api.OK {
		t.Errorf("%v, %v, %d", next, m, e)
	}
}

// P13.2: the record has the new tree's Epoch and Fresh, the batch's Leaves and the message's Joins; played, it is the step.
func TestOfAndPlay(t *testing.T) {
	leaves, joins := 0, 0
	for _, s := range steps(t) {
		wantOf(t, s.tree, s.batch, s.r)
		wantPlayed(t, s)
		if s.next.Epoch != s.tree.Epoch+1 {
			t.Fatalf("%v leads to the epoch %d", s.tree, s.next.Epoch)
		}
		leaves, joins = leaves+len(s.batch.Leaves), joins+len(s.batch.Joins)
	}
	if leaves < 500 || joins < 500 {
		t.Errorf("only %d left, %d joined", leaves, joins)
	}
}

// refusal is a tree and a batch with the error that plan.Next answers.
type refusal struct {
	tree  api.Tree
	batch api.Batch
	want  api.Errno
}

func refusals() []refusal {
	list := []refusal{
		{api.Tree{}, api.Batch{}, api.ErrTree}, {at(small(), 24), join(9), api.ErrTree}, {on(small(), 0), join(9), api.ErrTree}, {on(small(), 201), leave(256), api.ErrTree},
		{on(small(), 200), api.Batch{}, api.ErrEpochSpent}, {full(200, 200), leave(0), api.ErrEpochSpent}, {full(200, 0), join(256), api.ErrEpochSpent},
		{small(), leave(256), api.ErrWho}, {small(), join(-1), api.ErrWho}, {small(), join(256), api.ErrWho}, {small(), move([]int{1}, []int{9, 300}), api.ErrWho},
		{small(), leave(1, 1), api.ErrTwice}, {small(), join(9, 9), api.ErrTwice}, {small(), move([]int{1}, []int{1}), api.ErrTwice},
		{small(), leave(9), api.ErrNotOn}, {keytree.Start(), leave(1), api.ErrNotOn}, {small(), move([]int{9}, []int{300}), api.ErrNotOn},
		{small(), join(3), api.ErrOn}, {full(3, 3), join(0), api.ErrOn}, {small(), join(9, 1), api.ErrOn},
		{small(), join(people(100, 62, 1)...), api.ErrGroupFull}, {full(3, 3), join(1), api.ErrGroupFull}, {full(3, 3), move([]int{0}, []int{1, 2}), api.ErrGroupFull},
		{keytree.Start(), join(people(0, 65, 1)...), api.ErrGroupFull}, {full(3, 3), move(fullPeople(), people(1, 65, 1)), api.ErrTwice},
		{at(small(), 32768), join(9), api.ErrKey}, {at(small(), 32766), leave(1), api.ErrKey}, {at(small(), 32765), move([]int{1}, []int{9}), api.ErrKey},
	}
	for _, far := range farNumbers() {
		list = append(list, refusal{small(), leave(far), api.ErrWho}, refusal{small(), join(far), api.ErrWho}, refusal{small(), move([]int{1}, []int{far}), api.ErrWho})
	}
	return list
}

// P13.2: Of answers the errors of plan.Next, with no record beside them.
func TestOfRefuses(t *testing.T) {
	for _, c := range refusals() {
		if _, _, e := plan.Next(c.tree, c.batch); e != c.want {
			t.Fatalf("Next(%v, %v) answers %d, want %d", c.tree, c.batch, e, c.want)
		}
		if r, e := record.Of(c.tree, c.batch); !same(r, api.Record{}) || e != c.want {
			t.Errorf("Of(%v, %v) = %v, %d; want %d", c.tree, c.batch, r, e, c.want)
		}
	}
}

// P13.2: a record whose batch doesn't fit is refused by ErrRecord, whatever else it says.
func TestPlayOfWhatDoesntFit(t *testing.T) {
	for _, c := range refusals() {
		want := api.ErrRecord
		if c.want == api.ErrTree {
			want = api.ErrTree
		}
		for _, fresh := range []int{c.tree.Fresh, c.tree.Fresh + len(c.batch.Joins), c.tree.Fresh + len(c.batch.Joins) + 3, 0} {
			wantRefused(t, c.tree, api.Record{Epoch: c.tree.Epoch + 1, Fresh: fresh, Leaves: c.batch.Leaves, Joins: ownSeats(c.batch.Joins)}, want)
		}
		wantRefused(t, c.tree, api.Record{Leaves: c.batch.Leaves, Joins: ownSeats(c.batch.Joins)}, want)
	}
}

// wrongTrees have each something wrong.
func wrongTrees() []api.Tree {
	list := []api.Tree{{}, {Fresh: 22}, {Epoch: 1, Fresh: 22}, at(small(), 24), at(small(), 21), at(small(), 0), at(small(), 32769), on(small(), 0), on(small(), 201), on(small(), -1)}
	for _, tree := range []api.Tree{keytree.Start(), small(), full(17, 4), full(200, 200)} {
		for _, far := range farNumbers() {
			list = append(list, at(tree, far), on(tree, far))
		}
		for v := range tree.Keys {
			double, early, fast := tree, tree, tree
			double.Keys[v] = double.Keys[(v+1)%21]
			early.Keys[v].Base = tree.Fresh
			fast.Keys[v].Step = tree.Epoch + 1
			list = append(list, double, early, fast)
		}
		for slot := range tree.Roster {
			early, half := tree, tree
			early.Roster[slot] = api.Entry{Who: 7, Base: tree.Fresh, Since: 1}
			half.Roster[slot] = api.Entry{Who: 7}
			list = append(list, early, half)
		}
	}
	return list
}

// P13.2: a tree that isn't right is told ahead of the record.
func TestWrongTreeFirst(t *testing.T) {
	for _, tree := range wrongTrees() {
		if keytree.Check(tree) != api.ErrTree {
			t.Fatalf("%v is right", tree)
		}
		next := api.Record{Epoch: tree.Epoch + 1, Fresh: tree.Fresh}
		for _, r := range []api.Record{next, first(), {}, made(2, 28, []int{1}), made(1, 25, []int{256}), made(-1, -1, make([]int, 70), -1, -1)} {
			wantRefused(t, tree, r, api.ErrTree)
		}
		if r, e := record.Of(tree, join(9)); !same(r, api.Record{}) || e != api.ErrTree {
			t.Fatalf("Of(%v) = %v, %d", tree, r, e)
		}
	}
}

// altered are other records: each differs from the step's own one by one thing, and none of them is a step of its tree.
func altered(s step) []api.Record {
	var list []api.Record
	change := func(how func(*api.Record)) {
		r := clone(s.r)
		how(&r)
		list = append(list, r)
	}
	for _, n := range append(farNumbers(), 0, 201, 256, s.r.Epoch-1, s.r.Epoch+1, s.r.Epoch+2, s.r.Epoch+256) {
		change(func(r *api.Record) { r.Epoch = n })
	}
	for _, n := range append(farNumbers(), 0, 21, 32769, s.r.Fresh-1, s.r.Fresh+1, s.r.Fresh+65536) {
		change(func(r *api.Record) { r.Fresh = n })
	}
	for i := range s.r.Joins {
		for _, n := range append(farNumbers(), 64, s.r.Joins[i].Slot+1, s.r.Joins[i].Slot-1, s.r.Joins[i].Slot+64) {
			change(func(r *api.Record) { r.Joins[i].Slot = n })
		}
		for _, n := range append(farNumbers(), 256, s.r.Joins[i].Who+256) {
			change(func(r *api.Record) { r.Joins[i].Who = n })
		}
		change(func(r *api.Record) { r.Joins = slices.Delete(r.Joins, i, i+1) })
		change(func(r *api.Record) { r.Joins = append(r.Joins, r.Joins[i]) })
	}
	for i := range s.r.Leaves {
		for _, n := range append(farNumbers(), 256, s.r.Leaves[i]+256) {
			change(func(r *api.Record) { r.Leaves[i] = n })
		}
		change(func(r *api.Record) { r.Leaves = append(r.Leaves, r.Leaves[i]) })
		change(func(r *api.Record) { r.Joins = append(r.Joins, api.Seat{Who: r.Leaves[i]}) })
	}
	return list
}

// P13.2: another epoch, another Fresh, another slot, somebody else who can't be, more or fewer joiners: ErrRecord.
func TestAlteredRecords(t *testing.T) {
	var list []step
	for _, batch := range smallBatches()[:19] {
		list = append(list, gone(t, small(), batch))
	}
	list = append(list, gone(t, keytree.Start(), join(1, 2, 3)), gone(t, full(199, 9), move([]int{252, 0}, []int{7, 3})), gone(t, full(9, 9), leave(0, 4, 8)))
	list = append(list, row(t, 135, 12)...)
	for _, s := range list {
		for _, r := range altered(s) {
			wantRefused(t, s.tree, r, api.ErrRecord)
		}
		wantPlayed(t, s)
	}
}

// P13.2: joiners in another order have other slots, so a record with the old ones is refused.
func TestOrderOfJoiners(t *testing.T) {
	wantRefused(t, keytree.Start(), made(1, 25, nil, 2, 1, 1, 0, 3, 2), api.ErrRecord)
	wantRefused(t, keytree.Start(), made(1, 25, nil, 3, 2, 2, 1, 1, 0), api.ErrRecord)
	swapped := gone(t, keytree.Start(), join(2, 1, 3))
	if !same(swapped.r, made(1, 25, nil, 2, 0, 1, 1, 3, 2)) {
		t.Fatalf("%v", swapped.r)
	}
	wantPlayed(t, swapped)
	for _, s := range row(t, 136, 40) {
		for i := 1; i < len(s.r.Joins); i++ {
			r := clone(s.r)
			r.Joins[0], r.Joins[i] = r.Joins[i], r.Joins[0]
			wantRefused(t, s.tree, r, api.ErrRecord)
			r.Joins[0].Slot, r.Joins[i].Slot = s.r.Joins[0].Slot, s.r.Joins[i].Slot
			wantPlayed(t, gone(t, s.tree, move(r.Leaves, whoOf(r.Joins))))
			if next, _, e := record.Play(s.tree, r); e != api.OK || next == s.next {
				t.Fatalf("%v leads as %v to %v", r, s.r, next)
			}
		}
	}
}

func whoOf(list []api.Seat) []int {
	var who []int
	for _, seat := range list {
		who = append(who, seat.Who)
	}
	return who
}

// P13.2: leavers in another order are another batch's record, and its message tells them so.
func TestOrderOfLeavers(t *testing.T) {
	for _, list := range [][]int{{0, 4, 252}, {252, 0, 4}, {4, 252, 0}} {
		s := gone(t, full(5, 5), move(list, []int{7, 3}))
		if !same(s.r, made(6, 2007, list, 7, 0, 3, 1)) || !slices.Equal(whoOf(s.m.Leaves), list) {
			t.Fatalf("%v, %v", s.r, s.m)
		}
		wantPlayed(t, s)
	}
}

// P13.2: somebody else who leaves or joins is refused just where the numbers tell it.
func TestOtherPeople(t *testing.T) {
	played, refused := 0, 0
	for _, s := range []step{gone(t, small(), move([]int{1}, []int{9, 8})), gone(t, full(7, 3), leave(0, 128)), gone(t, full(7, 3), move([]int{0, 128}, []int{3}))} {
		for who := range 256 {
			for i := range len(s.r.Leaves) + len(s.r.Joins) {
				r := clone(s.r)
				if i < len(r.Leaves) {
					r.Leaves[i] = who
				} else {
					r.Joins[i-len(r.Leaves)].Who = who
				}
				if wantAsNext(t, s.tree, r) {
					played++
				} else {
					refused++
				}
			}
		}
	}
	if played < 500 || refused < 500 {
		t.Errorf("%d were played, %d refused", played, refused)
	}
}

// wantAsNext: Play answers as the chapter says it of plan.Next's answer.
func wantAsNext(t *testing.T, tree api.Tree, r api.Record) bool {
	t.Helper()
	next, m, e := plan.Next(tree, move(r.Leaves, whoOf(r.Joins)))
	switch {
	case keytree.Check(tree) != api.OK:
		wantRefused(t, tree, r, api.ErrTree)
		return false
	case e != api.OK || r.Epoch != next.Epoch || r.Fresh != next.Fresh || !slices.Equal(r.Joins, m.Joins):
		wantRefused(t, tree, r, api.ErrRecord)
		return false
	}
	wantPlayed(t, step{tree: tree, next: next, m: m, r: r})
	return true
}

// P13.2: of records that can't be written none is played.
func TestWrongRecordsNotPlayed(t *testing.T) {
	for _, r := range spoiled() {
		for _, tree := range []api.Tree{keytree.Start(), full(8, 2), on(small(), 200)} {
			wantRefused(t, tree, r, api.ErrRecord)
		}
	}
}

// P13.3: every record of a row is played on the tree one epoch below its own, and on no other tree of the row.
func TestOtherEpochs(t *testing.T) {
	for _, list := range [][]step{row(t, 137, 60), stillRow(t, 60), {gone(t, full(199, 3), leave(0))}} {
		for i, s := range list {
			for j, other := range list {
				if i == j {
					wantPlayed(t, s)
					continue
				}
				wantRefused(t, other.tree, s.r, api.ErrRecord)
			}
			wantRefused(t, list[len(list)-1].next, s.r, api.ErrRecord)
		}
	}
}

// stillRow is a row in which nobody moves but at the first step: its records differ by their epochs alone.
func stillRow(t *testing.T, n int) []step {
	t.Helper()
	list := []step{gone(t, keytree.Start(), join(1, 2, 3))}
	for len(list) < n {
		list = append(list, gone(t, list[len(list)-1].next, api.Batch{}))
	}
	return list
}

// P13.3: with the epochs alone told otherwise, on each epoch there is.
func TestOneBelow(t *testing.T) {
	for epoch := 1; epoch <= 200; epoch++ {
		for told := 0; told <= 260; told++ {
			r := made(told, 25, nil)
			if told == epoch+1 && told <= 200 {
				wantPlayed(t, gone(t, on(small(), epoch), api.Batch{}))
				continue
			}
			wantRefused(t, on(small(), epoch), r, api.ErrRecord)
		}
		for _, far := range farNumbers() {
			wantRefused(t, on(small(), epoch), made(far, 25, nil), api.ErrRecord)
		}
	}
}

// P13.4: records written by steps from the beginning on, read and played again, lead through the same trees, with the same messages.
func TestPlayedFromTheBeginning(t *testing.T) {
	for seed := range int64(4) {
		chance := rand.New(rand.NewSource(140 + seed))
		tree := keytree.Start()
		trees, texts, messages := []api.Tree{tree}, []string{}, []api.Rekey{}
		for range 200 {
			batch := chanceBatch(chance, tree, chance.Intn(20), chance.Intn(12))
			r, e := record.Of(tree, batch)
			text, e2 := record.Write(r)
			next, m, e3 := plan.Next(tree, batch)
			if e != api.OK || e2 != api.OK || e3 != api.OK {
				t.Fatal(batch, e, e2, e3)
			}
			tree = next
			trees, texts, messages = append(trees, tree), append(texts, text), append(messages, m)
		}
		tree = keytree.Start()
		for i, text := range texts {
			r, e := record.Read(text)
			next, m, e2 := record.Play(tree, r)
			if e != api.OK || e2 != api.OK || next != trees[i+1] || !sameRekey(m, messages[i]) {
				t.Fatalf("at the record %d: %d, %d, %v, want %v", i, e, e2, next, trees[i+1])
			}
			tree = next
		}
		if tree.Epoch != 200 {
			t.Errorf("the epoch %d", tree.Epoch)
		}
		if _, e := record.Of(tree, api.Batch{}); e != api.ErrEpochSpent {
			t.Errorf("the last tree has a step: %d", e)
		}
	}
}

// P13.4, P13.3: with a record left out, doubled or brought forward, the next one is refused.
func TestRowOutOfOrder(t *testing.T) {
	list := row(t, 145, 30)
	for i := 1; i < len(list)-1; i++ {
		wantRefused(t, list[i].tree, list[i-1].r, api.ErrRecord)
		wantRefused(t, list[i].tree, list[i+1].r, api.ErrRecord)
		wantPlayed(t, list[i])
	}
}

// P1: whatever is handed in is answered, and as the chapter says it.
func TestAnything(t *testing.T) {
	chance := rand.New(rand.NewSource(146))
	numbers := append(farNumbers(), 0, 1, 2, 3, 4, 8, 9, 20, 21, 22, 23, 25, 26, 63, 64, 199, 200, 201, 252, 255, 256, 2000, 32767, 32768, 32769)
	pick := func() int { return numbers[chance.Intn(len(numbers))] }
	count := map[bool]int{}
	for range 8000 {
		tree := []api.Tree{small(), full(1, 0), full(199, 7), full(200, 200), keytree.Start(), {}, at(small(), pick()), on(small(), pick())}[chance.Intn(8)]
		batch := chanceBatch(chance, tree, chance.Intn(10), chance.Intn(3))
		r, e := record.Of(tree, batch)
		if _, _, want := plan.Next(tree, batch); e != want {
			t.Fatalf("Of(%v, %v) answers %d, want %d", tree, batch, e, want)
		}
		for range chance.Intn(3) {
			switch chance.Intn(8) {
			case 0:
				r.Epoch = pick()
			case 1:
				r.Fresh = pick()
			case 2:
				r.Leaves = append(r.Leaves, pick())
			case 3:
				r.Joins = append(r.Joins, api.Seat{Who: pick(), Slot: pick()})
			case 4:
				r.Leaves = nil
			}
		}
		count[wantAsNext(t, tree, r)]++
		if !modelRight(r) {
			wantUnwritten(t, r)
			continue
		}
		wantBytes(t, r, modelWrite(r))
	}
	if count[true] < 1000 || count[false] < 1000 {
		t.Errorf("%v", count)
	}
}

// P1: lists far beyond every limit.
func TestLongLists(t *testing.T) {
	long, seats := make([]int, 1<<20), make([]api.Seat, 1<<20)
	for _, r := range []api.Record{{Epoch: 1, Fresh: 22, Leaves: long}, {Epoch: 1, Fresh: 22, Joins: seats}, {Epoch: 1, Fresh: 22, Leaves: long, Joins: seats}} {
		wantUnwritten(t, r)
		wantRefused(t, keytree.Start(), r, api.ErrRecord)
		wantRefused(t, api.Tree{}, r, api.ErrTree)
	}
	if r, e := record.Of(keytree.Start(), join(long...)); !same(r, api.Record{}) || e != api.ErrTwice {
		t.Errorf("%v, %d", r, e)
	}
	wantUnread(t, strings.Repeat("\xff", 1<<20))
	wantUnread(t, strings.Repeat("\x00", 1<<20))
}

// R4: a nil list and an empty one mean the same.
func TestEmptyLists(t *testing.T) {
	for _, r := range []api.Record{made(1, 22, nil), made(1, 22, []int{}), {Epoch: 1, Fresh: 22, Leaves: []int{}, Joins: []api.Seat{}}, {Epoch: 1, Fresh: 22, Joins: []api.Seat{}}} {
		wantBytes(t, r, "\x01\x00\x16\x00\x00")
		want := gone(t, keytree.Start(), api.Batch{})
		want.r = r
		wantPlayed(t, want)
	}
	wantOf(t, keytree.Start(), move([]int{}, []int{}), made(1, 22, nil))
	wantOf(t, keytree.Start(), move([]int{}, nil), made(1, 22, nil))
}

// roomy is a list with spare room, which has something too.
func roomy[T any](list []T, spare T) []T {
	long := append(slices.Clone(list), spare, spare, spare, spare)
	return long[:len(list)]
}

// unchanged: the list of roomy still has what it had, in its spare room too.
func unchanged[T comparable](own, list []T, spare T) bool {
	return slices.Equal(own[:len(list)+4], append(slices.Clone(list), spare, spare, spare, spare))
}

// R5: lists that are handed in stay, their spare room too, with and without an error.
func TestListsStay(t *testing.T) {
	spare := api.Seat{Who: 77, Slot: 7}
	trees := []api.Tree{keytree.Start(), small(), at(small(), 32768), full(200, 1), full(3, 3), {}}
	batches := append(smallBatches(), leave(9), join(1), join(9, 9), move([]int{1}, []int{256}), move([]int{0, 4}, []int{3, 7}))
	for _, batch := range batches {
		own := move(roomy(batch.Leaves, 77), roomy(batch.Joins, 77))
		for _, tree := range trees {
			record.Of(tree, own)
		}
		if !unchanged(own.Leaves, batch.Leaves, 77) || !unchanged(own.Joins, batch.Joins, 77) {
			t.Fatalf("%v became %v", batch, own)
		}
	}
	list := append(rightRecords()[:60], wrongRecords(first())...)
	for _, s := range steps(t)[:80] {
		list = append(list, s.r)
		trees = append(trees, s.tree)
	}
	for _, r := range list {
		own := api.Record{Epoch: r.Epoch, Fresh: r.Fresh, Leaves: roomy(r.Leaves, 77), Joins: roomy(r.Joins, spare)}
		record.Write(own)
		for _, tree := range trees {
			record.Play(tree, own)
		}
		if !unchanged(own.Leaves, r.Leaves, 77) || !unchanged(own.Joins, r.Joins, spare) {
			t.Fatalf("%v became %v", r, own)
		}
	}
}

// scrawl writes all over a list, its spare room too.
func scrawl[T any](list []T, with T) {
	list = list[:cap(list)]
	for i := range list {
		list[i] = with
	}
}

// scrawlRecord writes over one list of a record and looks at the other one.
func scrawlRecord(t *testing.T, r, want api.Record) {
	t.Helper()
	scrawl(r.Leaves, -9)
	if !slices.Equal(r.Joins, want.Joins) {
		t.Fatalf("%v: the leavers are shared", want)
	}
	scrawl(r.Joins, api.Seat{Who: -8, Slot: -8})
	if slices.Contains(r.Leaves, -8) {
		t.Fatalf("%v: the joiners are shared", want)
	}
}

// R5: what Of and Read answer is new memory.
func TestRecordsAreNewMemory(t *testing.T) {
	for _, s := range steps(t)[:120] {
		own := move(roomy(s.batch.Leaves, 77), roomy(s.batch.Joins, 77))
		r, _ := record.Of(s.tree, own)
		again, _ := record.Of(s.tree, own)
		scrawlRecord(t, r, s.r)
		if !same(again, s.r) || !unchanged(own.Leaves, s.batch.Leaves, 77) || !unchanged(own.Joins, s.batch.Joins, 77) {
			t.Fatalf("%v became %v, %v", s.r, again, own)
		}
		scrawl(own.Leaves, 5)
		scrawl(own.Joins, 5)
		if !same(again, s.r) {
			t.Fatalf("%v became %v with its batch", s.r, again)
		}
		text := modelWrite(s.r)
		one, _ := record.Read(text)
		other, _ := record.Read(text)
		scrawlRecord(t, one, s.r)
		if !same(other, s.r) {
			t.Fatalf("%v became %v", s.r, other)
		}
	}
}

// R5: what Play answers is new memory: who writes on the message changes no record and no other message, and the other way round.
func TestMessagesAreNewMemory(t *testing.T) {
	spare := api.Seat{Who: 77, Slot: 7}
	for _, s := range steps(t)[:120] {
		own := api.Record{Epoch: s.r.Epoch, Fresh: s.r.Fresh, Leaves: roomy(s.r.Leaves, 77), Joins: roomy(s.r.Joins, spare)}
		_, m, _ := record.Play(s.tree, own)
		_, again, _ := record.Play(s.tree, own)
		scrawl(m.Leaves, api.Seat{Who: -9, Slot: -9})
		if !slices.Equal(m.Joins, s.m.Joins) || !slices.Equal(m.Items, s.m.Items) {
			t.Fatalf("%v: the left seats are shared", s.r)
		}
		scrawl(m.Joins, api.Seat{Who: -8, Slot: -8})
		if !slices.Equal(m.Items, s.m.Items) || slices.Contains(m.Leaves, api.Seat{Who: -8, Slot: -8}) {
			t.Fatalf("%v: the joined seats are shared", s.r)
		}
		scrawl(m.Items, api.Item{Node: -7})
		if !sameRekey(again, s.m) || !unchanged(own.Leaves, s.r.Leaves, 77) || !unchanged(own.Joins, s.r.Joins, spare) {
			t.Fatalf("%v: %v, want %v", own, again, s.m)
		}
		scrawl(own.Leaves, 5)
		scrawl(own.Joins, spare)
		if !sameRekey(again, s.m) {
			t.Fatalf("%v: %v, want %v", s.r, again, s.m)
		}
	}
}

// R6: an answer hangs on nothing that was asked before it.
func TestNothingKept(t *testing.T) {
	tree := small()
	s := gone(t, tree, move([]int{1}, []int{9, 8}))
	text := modelWrite(s.r)
	for i, batch := range fullBatches() {
		r, _ := record.Of(full(3, 1), batch)
		record.Play(full(3, 1), r)
		record.Play(full(200, 1), r)
		record.Write(api.Record{Leaves: batch.Leaves})
		record.Read(text[:i%len(text)])
		wantOf(t, tree, s.batch, s.r)
		wantBytes(t, s.r, text)
		wantPlayed(t, s)
	}
	if tree != small() {
		t.Errorf("the tree became %v", tree)
	}
}
