package server_test

import (
	"encoding/binary"
	"fmt"
	"hash/crc32"
	"maps"
	"math"
	"math/rand"
	"slices"
	"strconv"
	"strings"
	"testing"

	"coterie/api"
	"coterie/disk"
	"coterie/journal"
	"coterie/key"
	"coterie/keytree"
	"coterie/member"
	"coterie/plan"
	"coterie/record"
	"coterie/recovery"
	"coterie/server"
	"coterie/wire"
)

func k(base, step int) api.Key { return api.Key{Base: base, Step: step} }

func leave(who ...int) api.Batch { return api.Batch{Leaves: who} }

func join(who ...int) api.Batch { return api.Batch{Joins: who} }

func move(leaves, joins []int) api.Batch { return api.Batch{Leaves: leaves, Joins: joins} }

// people are n numbers from one on.
func people(from, n int) []int {
	var list []int
	for i := range n {
		list = append(list, from+i)
	}
	return list
}

// farNumbers are beyond every limit, and among them are those that would look like a number in bounds if a conversion or a field cut them.
func farNumbers() []int {
	return []int{
		-1, -2, -63, -128, -255, -256, -256 + 1, -65536 + 1, -1 << 31, -1<<31 + 1, -1 << 32, -1<<32 + 1, math.MinInt, math.MinInt + 1,
		256, 256 + 1, 512 + 1, 65536, 65536 + 1, 1<<31 - 1, 1 << 31, 1<<31 + 1, 1<<32 - 1, 1 << 32, 1<<32 + 1, 1 << 62, math.MaxInt - 1, math.MaxInt,
	}
}

// digits are the number's bits, told as noughts and ones.
func digits(n, width int) string { return fmt.Sprintf("%0*b", width, n) }

// bytesOf are the bytes of told bits (blanks between them tell nothing); noughts fill the last one.
func bytesOf(told string) string {
	told = strings.ReplaceAll(told, " ", "")
	var text []byte
	for told != "" {
		n := min(8, len(told))
		eight, _ := strconv.ParseUint(told[:n]+strings.Repeat("0", 8-n), 2, 8)
		text, told = append(text, byte(eight)), told[n:]
	}
	return string(text)
}

func keyDigits(key api.Key) string { return digits(key.Base, 16) + digits(key.Step, 8) }

func boxDigits(box api.Box) string { return keyDigits(box.Under) + keyDigits(box.Load) }

// messageOf are a rekey message's bytes, written another way.
func messageOf(m api.Rekey) string {
	told := "00" + digits(m.Epoch, 8)
	for _, seats := range [][]api.Seat{m.Leaves, m.Joins} {
		told += digits(len(seats), 7)
		for _, seat := range seats {
			told += digits(seat.Who, 8) + digits(seat.Slot, 6)
		}
	}
	told += digits(len(m.Items), 11)
	for _, item := range m.Items {
		told += digits(item.Node, 5) + digits(item.From, 7) + boxDigits(item.Box)
	}
	return bytesOf(told)
}

// requestOf are the bytes of a request whose numbers need only be of their widths.
func requestOf(who, epoch int) string { return bytesOf("01" + digits(who, 8) + digits(epoch, 8)) }

// seatOf is where somebody sits; -1: nowhere.
func seatOf(tree api.Tree, who int) int {
	for slot, entry := range tree.Roster {
		if entry.Base != 0 && entry.Who == who {
			return slot
		}
	}
	return -1
}

// leafOf is the leaf key of a taken seat.
func leafOf(tree api.Tree, slot int) api.Key {
	return k(tree.Roster[slot].Base, tree.Epoch-tree.Roster[slot].Since)
}

// replyOf are the bytes of the reply to who sits at the slot, written another way.
func replyOf(tree api.Tree, slot int) string {
	told := "10" + digits(tree.Roster[slot].Who, 8) + digits(slot, 6) + digits(tree.Epoch, 8)
	for v := (21 + slot - 1) / 4; ; v = (v - 1) / 4 {
		told += boxDigits(api.Box{Under: leafOf(tree, slot), Load: tree.Keys[v]})
		if v == 0 {
			return bytesOf(told)
		}
	}
}

// recordOf are the bytes of a step's record, written another way.
func recordOf(next api.Tree, b api.Batch, joined []api.Seat) string {
	told := digits(next.Epoch, 8) + digits(next.Fresh, 16) + digits(len(b.Leaves), 7)
	for _, who := range b.Leaves {
		told += digits(who, 8)
	}
	told += digits(len(joined), 7)
	for _, seat := range joined {
		told += digits(seat.Who, 8) + digits(seat.Slot, 6)
	}
	return bytesOf(told)
}

// blockOf is a block another way, with the library's own sum.
func blockOf(seq, part, parts int, data string) string {
	room := make([]byte, 28)
	binary.BigEndian.PutUint16(room, uint16(seq))
	room[2], room[3], room[4] = byte(part), byte(parts), byte(len(data))
	copy(room[5:], data)
	return string(binary.BigEndian.AppendUint32(room, crc32.ChecksumIEEE(room)))
}

// framed are the blocks of a record another way.
func framed(seq int, payload string) []string {
	parts := max(1, (len(payload)+22)/23)
	var blocks []string
	for part := range parts {
		blocks = append(blocks, blockOf(seq, part, parts, payload[23*part:min(23*part+23, len(payload))]))
	}
	return blocks
}

// laid are the blocks of these payloads' records.
func laid(payloads ...string) []string {
	var image []string
	for i, payload := range payloads {
		image = append(image, framed(i+1, payload)...)
	}
	return image
}

// trimmed is the image without the empty blocks at its end, as a disk shows it.
func trimmed(image []string) []string {
	for len(image) > 0 && image[len(image)-1] == "" {
		image = image[:len(image)-1]
	}
	return image
}

// book is what a disk and its servers have to come to, kept another way: the records that stand whole are known by the steps, not looked for.
type book struct {
	left   int        // writes till the power goes; -1: it stays
	trees  []api.Tree // behind each number of the records that stand whole
	blocks []string   // theirs
	rest   []string   // what stands behind them of a record that was cut
	writes []api.Write
}

// clerk is a server in the book.
type clerk struct {
	book *book
	tree api.Tree
	dead bool
}

func newBook() *book { return &book{left: -1, trees: []api.Tree{keytree.Start()}} }

func (b *book) write(at int, text string) {
	b.writes = append(b.writes, api.Write{At: at, Text: text})
	if b.left > 0 {
		b.left--
	}
}

func (b *book) image() []string { return trimmed(slices.Concat(b.blocks, b.rest)) }

func (b *book) open() (*clerk, api.Errno) {
	if b.left == 0 {
		return nil, api.ErrDown
	}
	for i, text := range b.rest {
		if text == "" {
			continue
		}
		b.write(len(b.blocks)+i, "")
		b.rest[i] = ""
		if b.left == 0 {
			return nil, api.ErrDown
		}
	}
	b.rest = nil
	return &clerk{book: b, tree: b.trees[len(b.trees)-1]}, api.OK
}

func (c *clerk) down() bool { return c.dead || c.book.left == 0 }

// keep writes the blocks; false: the power has gone. A record of which the last block was written stands all the same.
func (b *book) keep(next api.Tree, blocks []string) bool {
	end := len(b.blocks)
	for i, block := range blocks {
		b.write(end+i, block)
		if i+1 == len(blocks) {
			b.trees, b.blocks = append(b.trees, next), append(b.blocks, blocks...)
		} else if b.left == 0 {
			b.rest = slices.Clone(blocks[:i+1])
		}
		if b.left == 0 {
			return false
		}
	}
	return true
}

func (c *clerk) batch(b api.Batch) (string, api.Errno) {
	if c.down() {
		c.dead = true
		return "", api.ErrDown
	}
	next, m, e := plan.Next(c.tree, b)
	if e != api.OK {
		return "", e
	}
	if !c.book.keep(next, framed(next.Epoch, recordOf(next, b, m.Joins))) {
		c.dead = true
		return "", api.ErrDown
	}
	c.tree = next
	return messageOf(m), api.OK
}

func (c *clerk) card(who int) (api.Card, api.Errno) {
	if c.down() {
		return api.Card{}, api.ErrDown
	}
	slot := seatOf(c.tree, who)
	if slot < 0 {
		return api.Card{}, api.ErrNotOn
	}
	return api.Card{Who: who, Slot: slot, Epoch: c.tree.Epoch, Leaf: leafOf(c.tree, slot)}, api.OK
}

// asked reads a request's bytes another way.
func asked(text string) (api.Request, bool) {
	if len(text) != 3 {
		return api.Request{}, false
	}
	told := digits(int(text[0])<<16|int(text[1])<<8|int(text[2]), 24)
	who, _ := strconv.ParseInt(told[2:10], 2, 64)
	epoch, _ := strconv.ParseInt(told[10:18], 2, 64)
	return api.Request{Who: int(who), Epoch: int(epoch)}, told[:2] == "01" && told[18:] == "000000" && epoch >= 1 && epoch <= 200
}

func (c *clerk) serve(text string) (string, api.Errno) {
	q, is := asked(text)
	slot := seatOf(c.tree, q.Who)
	switch {
	case c.down():
		return "", api.ErrDown
	case !is:
		return "", api.ErrWire
	case slot < 0:
		return "", api.ErrNotOn
	case q.Epoch > c.tree.Epoch:
		return "", api.ErrAhead
	}
	return replyOf(c.tree, slot), api.OK
}

func from(t *testing.T, image []string) *disk.Disk {
	t.Helper()
	d, e := disk.From(image)
	if e != api.OK {
		t.Fatalf("From of %d blocks: %d", len(image), e)
	}
	return d
}

// opened is the server that has to be there, at this epoch.
func opened(t *testing.T, d *disk.Disk, epoch int) *server.Server {
	t.Helper()
	s, e := server.Open(d)
	if e != api.OK || s == nil || s.Down() || s.Tree().Epoch != epoch {
		t.Fatalf("Open: %d; want a server that is up, at the epoch %d", e, epoch)
	}
	return s
}

// wantNoServer holds that Open is refused.
func wantNoServer(t *testing.T, d *disk.Disk, want api.Errno) {
	t.Helper()
	if s, e := server.Open(d); s != nil || e != want {
		t.Fatalf("Open: a server %v, %d; want none, %d", s != nil, e, want)
	}
}

// told is a batch in few words.
func told(b api.Batch) string {
	return fmt.Sprintf("%d leavers %v, %d joiners %v", len(b.Leaves), b.Leaves[:min(4, len(b.Leaves))], len(b.Joins), b.Joins[:min(4, len(b.Joins))])
}

// went is a batch that has to be taken; the message's bytes.
func went(t *testing.T, s *server.Server, b api.Batch) string {
	t.Helper()
	text, e := s.Batch(b)
	if e != api.OK {
		t.Fatalf("Batch of %s: %d", told(b), e)
	}
	return text
}

// wantBatchRefused holds that no message leaves and the tree stays.
func wantBatchRefused(t *testing.T, s *server.Server, b api.Batch, want api.Errno) {
	t.Helper()
	before := s.Tree()
	if text, e := s.Batch(b); text != "" || e != want {
		t.Fatalf("Batch of %s: %.40q, %d; want nothing, %d", told(b), text, e, want)
	}
	if s.Tree() != before {
		t.Fatalf("Batch of %s: the tree has changed, beside %d", told(b), want)
	}
}

// wantDownForGood holds that a server is down whatever power there is, and changes nothing any more.
func wantDownForGood(t *testing.T, s *server.Server, d *disk.Disk, tree api.Tree) {
	t.Helper()
	writes := len(d.Writes())
	for _, power := range []int{-1, 1, 0, 7, -1} {
		d.Up(power)
		if !s.Down() || s.Tree() != tree {
			t.Fatalf("power for %d: down %v, epoch %d; want down, at the epoch %d", power, s.Down(), s.Tree().Epoch, tree.Epoch)
		}
		wantBatchRefused(t, s, api.Batch{}, api.ErrDown)
		wantBatchRefused(t, s, leave(300), api.ErrDown)
		if card, e := s.Card(1); card != (api.Card{}) || e != api.ErrDown {
			t.Fatalf("Card of a server that is down: %v, %d", card, e)
		}
		for _, text := range []string{requestOf(1, 1), "x"} {
			if reply, e := s.Serve(text); reply != "" || e != api.ErrDown {
				t.Fatalf("Serve of a server that is down: %q, %d", reply, e)
			}
		}
	}
	if len(d.Writes()) != writes {
		t.Fatal("a server that is down has written")
	}
}

// wantWrites holds that the disk has these writes behind those that it had.
func wantWrites(t *testing.T, d *disk.Disk, before int, want ...api.Write) {
	t.Helper()
	if got := d.Writes()[before:]; !slices.Equal(got, want) {
		t.Fatalf("written: %d blocks; want %d, or others", len(got), len(want))
	}
}

// writesAt are the writes of these blocks from a place on.
func writesAt(at int, blocks ...string) []api.Write {
	var list []api.Write
	for i, block := range blocks {
		list = append(list, api.Write{At: at + i, Text: block})
	}
	return list
}

// firstRecord and firstMessage are those of the step with which 1 joins, bit by bit.
func firstRecord() string {
	return bytesOf("00000001 0000000000010111 0000000 0000001 00000001 000000")
}

func firstMessage() string {
	leaf := "0000000000010110 00000000"
	return bytesOf("00 00000001 0000000 0000001 00000001 000000 00000000011" +
		"00101 0010101" + leaf + "0000000000000110 00000001" +
		"00001 0010101" + leaf + "0000000000000010 00000001" +
		"00000 0010101" + leaf + "0000000000000001 00000001")
}

// firstTree is the tree behind this step.
func firstTree() api.Tree {
	tree := api.Tree{Epoch: 1, Fresh: 23}
	for v := range tree.Keys {
		tree.Keys[v] = k(v+1, 1)
	}
	tree.Roster[0] = api.Entry{Who: 1, Base: 22, Since: 1}
	return tree
}

// P18.1, example 1: Start's tree; a step, its message and its one write; a batch that doesn't fit.
func TestFirstExample(t *testing.T) {
	d := disk.New()
	s := opened(t, d, 0)
	if s.Tree() != keytree.Start() {
		t.Error("a new disk doesn't tell Start's tree")
	}
	wantWrites(t, d, 0)
	if text := went(t, s, join(1)); text != firstMessage() {
		t.Errorf("the message is %x, want %x", text, firstMessage())
	}
	if s.Tree() != firstTree() || s.Down() {
		t.Errorf("behind the step: %v, down %v", s.Tree(), s.Down())
	}
	wantWrites(t, d, 0, api.Write{At: 0, Text: blockOf(1, 0, 1, firstRecord())})
	wantBatchRefused(t, s, leave(9), api.ErrNotOn)
	wantWrites(t, d, 1)
	if s.Down() || opened(t, d, 1).Tree() != firstTree() {
		t.Error("a batch that is refused has changed something")
	}
}

// P18.1, example 2: the power goes ahead of the write, and with it.
func TestSecondExample(t *testing.T) {
	for power := range 2 {
		d := disk.New()
		s := opened(t, d, 0)
		d.Up(power)
		wantBatchRefused(t, s, join(1), api.ErrDown)
		wantWrites(t, d, 0, writesAt(0, laid(firstRecord())[:power]...)...)
		if s.Tree() != keytree.Start() || !s.Down() {
			t.Error("the server isn't down, or not at Start")
		}
		wantNoServer(t, d, api.ErrDown)
		d.Up(-1)
		again := opened(t, d, power)
		if want := []api.Tree{keytree.Start(), firstTree()}[power]; again.Tree() != want {
			t.Errorf("power for %d: opened again at %v", power, again.Tree())
		}
		wantDownForGood(t, s, d, keytree.Start())
	}
}

// P18.1, example 3: a request, and a text that is none.
func TestThirdExample(t *testing.T) {
	s := opened(t, disk.New(), 0)
	went(t, s, join(1))
	leaf := "0000000000010110 00000000"
	want := bytesOf("10 00000001 000000 00000001" + leaf + "0000000000000110 00000001" + leaf + "0000000000000010 00000001" + leaf + "0000000000000001 00000001")
	if reply, e := s.Serve("\x40\x40\x40"); reply != want || e != api.OK {
		t.Errorf("Serve: %x, %d; want %x", reply, e, want)
	}
	if reply, e := s.Serve("x"); reply != "" || e != api.ErrWire {
		t.Errorf("Serve of x: %q, %d", reply, e)
	}
}

// P18.1, example 4: a payload that is no record.
func TestFourthExample(t *testing.T) {
	wantNoServer(t, from(t, laid("x")), api.ErrRecord)
}

// on are the people of a tree, in the order of their slots.
func on(tree api.Tree) []int {
	var list []int
	for _, entry := range tree.Roster {
		if entry.Base != 0 {
			list = append(list, entry.Who)
		}
	}
	return list
}

// off are the people who aren't.
func off(tree api.Tree) []int {
	var list []int
	for who := range 256 {
		if seatOf(tree, who) < 0 {
			list = append(list, who)
		}
	}
	return list
}

// some are n of the list, in any order.
func some(chance *rand.Rand, list []int, n int) []int {
	var out []int
	for _, i := range chance.Perm(len(list))[:min(n, len(list))] {
		out = append(out, list[i])
	}
	return out
}

// drawGood is a batch that fits; now and then a great one.
func drawGood(chance *rand.Rand, tree api.Tree) api.Batch {
	most := []int{0, 2, 4, 64}[chance.Intn(4)]
	leaves := some(chance, on(tree), chance.Intn(most+1))
	free := 64 - len(on(tree)) + len(leaves)
	return move(leaves, some(chance, off(tree), min(free, chance.Intn(most+1))))
}

// drawBatch is a batch that fits, or one in which something is wrong.
func drawBatch(chance *rand.Rand, tree api.Tree) api.Batch {
	b := drawGood(chance, tree)
	switch chance.Intn(14) {
	case 0:
		far := farNumbers()
		b.Leaves = append(b.Leaves, far[chance.Intn(len(far))])
	case 1:
		b.Joins = append(b.Joins, 256)
	case 2:
		b.Leaves = append(b.Leaves, some(chance, off(tree), 1)...)
	case 3:
		b.Joins = append(b.Joins, some(chance, on(tree), 1)...)
	case 4:
		b.Joins = append(b.Joins, some(chance, slices.Concat(b.Leaves, b.Joins), 1)...)
	case 5:
		b.Joins = some(chance, off(tree), 64-len(on(tree))+len(b.Leaves)+1)
	}
	return b
}

// drawText is a request's bytes, or others.
func drawText(chance *rand.Rand, tree api.Tree) string {
	text := requestOf(chance.Intn(256), chance.Intn(256))
	if sitting := on(tree); len(sitting) > 0 && chance.Intn(3) > 0 {
		text = requestOf(sitting[chance.Intn(len(sitting))], chance.Intn(tree.Epoch+3))
	}
	switch chance.Intn(8) {
	case 0:
		return text + "\x00"
	case 1:
		return text[:2]
	case 2:
		room := make([]byte, chance.Intn(40))
		chance.Read(room)
		return string(room)
	}
	return text
}

// row is a disk with its server, played beside the book.
type row struct {
	t       *testing.T
	chance  *rand.Rand
	disk    *disk.Disk
	server  *server.Server
	book    *book
	clerk   *clerk
	dead    map[*server.Server]*clerk // those that were opened earlier and are down for good
	answers map[string]int            // how often what was answered
}

func (r *row) note(call string, e api.Errno) { r.answers[call+" "+strconv.Itoa(int(e))]++ }

func (r *row) open() {
	s, e := server.Open(r.disk)
	c, want := r.book.open()
	r.note("open", e)
	if e != want || (s == nil) != (c == nil) {
		r.t.Fatalf("Open: %d, want %d", e, want)
	}
	if s == nil {
		return
	}
	if r.clerk.dead {
		r.dead[r.server] = r.clerk
	}
	r.server, r.clerk = s, c
}

func (r *row) batch() {
	b := drawBatch(r.chance, r.clerk.tree)
	text, e := r.server.Batch(b)
	want, number := r.clerk.batch(b)
	r.note("batch", e)
	if text != want || e != number {
		r.t.Fatalf("Batch of %s: %d bytes, %d; want %d bytes, %d", told(b), len(text), e, len(want), number)
	}
}

func (r *row) card() {
	who := r.chance.Intn(258) - 1
	if sitting := on(r.clerk.tree); len(sitting) > 0 && r.chance.Intn(2) == 0 {
		who = sitting[r.chance.Intn(len(sitting))]
	}
	card, e := r.server.Card(who)
	want, number := r.clerk.card(who)
	r.note("card", e)
	if card != want || e != number {
		r.t.Fatalf("Card of %d: %v, %d; want %v, %d", who, card, e, want, number)
	}
}

func (r *row) serve() {
	text := drawText(r.chance, r.clerk.tree)
	reply, e := r.server.Serve(text)
	want, number := r.clerk.serve(text)
	r.note("serve", e)
	if reply != want || e != number {
		r.t.Fatalf("Serve of %x: %x, %d; want %x, %d", text, reply, e, want, number)
	}
}

// power gives some, or takes it.
func (r *row) power() {
	n := []int{-1, -1, 0, 1, 2, 3, 4, 5, 8, 20}[r.chance.Intn(10)]
	if n == 0 && r.chance.Intn(2) == 0 {
		r.disk.Off()
	} else {
		r.disk.Up(n)
	}
	r.book.left = n
}

// look holds what is seen against the book.
func (r *row) look() {
	if r.server.Tree() != r.clerk.tree || r.server.Down() != r.clerk.down() {
		r.t.Fatalf("epoch %d, down %v; want %d, %v", r.server.Tree().Epoch, r.server.Down(), r.clerk.tree.Epoch, r.clerk.down())
	}
	for s, c := range r.dead {
		if s.Tree() != c.tree || !s.Down() {
			r.t.Fatal("a server that is down for good has changed")
		}
	}
	if r.disk.On() != (r.book.left != 0) || !slices.Equal(r.disk.Writes(), r.book.writes) {
		r.t.Fatalf("%d writes, want %d; on %v", len(r.disk.Writes()), len(r.book.writes), r.disk.On())
	}
	if !slices.Equal(r.disk.Image(), r.book.image()) {
		r.t.Fatalf("%d blocks, want %d", len(r.disk.Image()), len(r.book.image()))
	}
}

func (r *row) play(steps int) {
	for range steps {
		switch n := r.chance.Intn(20); {
		case n < 8:
			r.batch()
		case n < 12:
			r.serve()
		case n < 15:
			r.card()
		case n < 17:
			r.power()
		default:
			if r.clerk.down() && r.chance.Intn(3) == 0 {
				r.disk.Up(-1)
				r.book.left = -1
			}
			r.open()
		}
		r.look()
	}
}

// begun is a row on a new disk, or on one that an image was the beginning of.
func begun(t *testing.T, seed int64, answers map[string]int, b *book) *row {
	t.Helper()
	r := &row{t: t, chance: rand.New(rand.NewSource(seed)), disk: disk.New(), book: b, dead: map[*server.Server]*clerk{}, answers: answers}
	if image := b.image(); len(image) > 0 {
		r.disk = from(t, image)
	}
	b.left, b.writes = -1, nil
	r.clerk = &clerk{book: b}
	r.open()
	r.look()
	return r
}

// P18.1, P18.2, P18.3, R2, R3, R6, and P2: rows of any calls, with the power given and taken, on new disks and on images of those, answer and write as the book has it. At each step the old servers that are down stay as they were.
func TestRows(t *testing.T) {
	answers := map[string]int{}
	for seed := range int64(150) {
		first := begun(t, seed, answers, newBook())
		first.play(90)
		begun(t, seed+1000, answers, first.book).play(60)
	}
	for _, call := range []struct {
		name    string
		answers []api.Errno
	}{
		{"open", []api.Errno{api.OK, api.ErrDown}},
		{"batch", []api.Errno{api.OK, api.ErrDown, api.ErrWho, api.ErrTwice, api.ErrNotOn, api.ErrOn, api.ErrGroupFull}},
		{"card", []api.Errno{api.OK, api.ErrDown, api.ErrNotOn}},
		{"serve", []api.Errno{api.OK, api.ErrDown, api.ErrWire, api.ErrNotOn, api.ErrAhead}},
	} {
		for _, e := range call.answers {
			if n := answers[call.name+" "+strconv.Itoa(int(e))]; n < 20 {
				t.Errorf("%s has answered %d only %d times", call.name, e, n)
			}
		}
	}
}

// crowd is a server at the epoch 1, at which all seats are taken by the people from 0 on; and its disk, begun with its image.
func crowd(t *testing.T) (*server.Server, *disk.Disk) {
	t.Helper()
	d := disk.New()
	went(t, opened(t, d, 0), join(people(0, 64)...))
	begun := from(t, d.Image())
	return opened(t, begun, 1), begun
}

// sized are batches of the crowd whose records have 1 to 8 blocks, and among them those whose last block is full.
func sized() []struct {
	blocks int
	batch  api.Batch
} {
	return []struct {
		blocks int
		batch  api.Batch
	}{
		{1, api.Batch{}}, {1, leave(7)}, {1, leave(people(0, 18)...)}, {2, leave(people(0, 19)...)}, {2, leave(people(20, 40)...)},
		{3, leave(people(0, 64)...)}, {4, move(people(0, 64), people(100, 1))}, {4, move(people(30, 34), people(64, 30))},
		{5, move(people(0, 64), people(64, 20))}, {6, move(people(0, 64), people(192, 32))}, {7, move(people(0, 64), people(100, 50))}, {8, move(people(0, 64), people(64, 64))},
	}
}

// stepOf is the step from a tree: the next one, the message's bytes, the record's blocks.
func stepOf(t *testing.T, tree api.Tree, b api.Batch) (api.Tree, string, []string) {
	t.Helper()
	next, m, e := plan.Next(tree, b)
	if e != api.OK {
		t.Fatalf("the step of %s: %d", told(b), e)
	}
	return next, messageOf(m), framed(next.Epoch, recordOf(next, b, m.Joins))
}

// P18.1: with power for fewer writes than the record has, or for just as many, a step is answered by ErrDown, the blocks till then are written, the tree stays, no message leaves, and the server stays down; with one more, and without bound, the step is gone.
func TestPowerForSoManyWrites(t *testing.T) {
	for _, size := range sized() {
		for power := -1; power <= size.blocks+2; power++ {
			s, d := crowd(t)
			before, start := s.Tree(), d.Image()
			next, message, blocks := stepOf(t, before, size.batch)
			if len(blocks) != size.blocks {
				t.Fatalf("the record has %d blocks, want %d", len(blocks), size.blocks)
			}
			d.Up(power)
			text, e := s.Batch(size.batch)
			if power < 0 || power > size.blocks {
				if text != message || e != api.OK || s.Tree() != next || s.Down() {
					t.Fatalf("power for %d of %d: %d bytes, %d", power, size.blocks, len(text), e)
				}
				wantWrites(t, d, 0, writesAt(len(start), blocks...)...)
				continue
			}
			if text != "" || e != api.ErrDown || s.Tree() != before || !s.Down() {
				t.Fatalf("power for %d of %d: %d bytes, %d", power, size.blocks, len(text), e)
			}
			wantWrites(t, d, 0, writesAt(len(start), blocks[:power]...)...)
			wantDownForGood(t, s, d, before)
			wantAfterCut(t, d, before, next, start, blocks[:power], power == size.blocks)
		}
	}
}

// wantAfterCut opens the disk of a step that was cut behind these blocks: their places are wiped, or the record stands whole.
func wantAfterCut(t *testing.T, d *disk.Disk, before, next api.Tree, start, written []string, whole bool) {
	t.Helper()
	n := len(d.Writes())
	if whole {
		if opened(t, d, next.Epoch).Tree() != next {
			t.Fatal("a whole record isn't played")
		}
		wantWrites(t, d, n)
		return
	}
	if opened(t, d, before.Epoch).Tree() != before {
		t.Fatal("the step that was cut has left something")
	}
	wantWrites(t, d, n, writesAt(len(start), make([]string, len(written))...)...)
	if !slices.Equal(d.Image(), start) {
		t.Fatal("the disk has more than the journal's blocks")
	}
}

// P18.1: with one write more than the record has, the server goes on; it goes down within the next step.
func TestPowerIsUsedUp(t *testing.T) {
	s, d := crowd(t)
	d.Up(4)
	went(t, s, leave(people(0, 64)...))
	if s.Down() || !d.On() {
		t.Fatal("the power has gone too early")
	}
	tree := s.Tree()
	wantBatchRefused(t, s, api.Batch{}, api.ErrDown)
	wantDownForGood(t, s, d, tree)
	opened(t, d, 3)
}

// P18.1: a server whose power is off is down, and up again with it, as long as no Batch was asked in between; what is asked then is answered by ErrDown and changes nothing.
func TestPowerOffAndOn(t *testing.T) {
	s, d := crowd(t)
	tree := s.Tree()
	for range 3 {
		d.Off()
		if !s.Down() || s.Tree() != tree {
			t.Fatal("it isn't down, or its tree isn't told")
		}
		if card, e := s.Card(1); card != (api.Card{}) || e != api.ErrDown {
			t.Fatalf("Card: %v, %d", card, e)
		}
		if reply, e := s.Serve(requestOf(1, 1)); reply != "" || e != api.ErrDown {
			t.Fatalf("Serve: %q, %d", reply, e)
		}
		wantNoServer(t, d, api.ErrDown)
		d.Up(100)
		if s.Down() {
			t.Fatal("it is down, with the power on")
		}
		if _, e := s.Card(1); e != api.OK {
			t.Fatal(e)
		}
		if _, e := s.Serve(requestOf(1, 1)); e != api.OK {
			t.Fatal(e)
		}
	}
	went(t, s, leave(1))
	tree = s.Tree()
	for _, b := range []api.Batch{{}, leave(300), join(1, 1)} {
		again := from(t, d.Image())
		s = opened(t, again, 2)
		again.Off()
		wantBatchRefused(t, s, b, api.ErrDown)
		wantWrites(t, again, 0)
		wantDownForGood(t, s, again, tree)
	}
}

// P18.1: the errors of plan.Next, the first that applies; that the server is down comes ahead of each. Nothing is written, and the server goes on.
func TestRefusedBatches(t *testing.T) {
	full := people(0, 64)
	for _, one := range []struct {
		batch api.Batch
		want  api.Errno
	}{
		{leave(256), api.ErrWho}, {join(-1), api.ErrWho}, {join(math.MaxInt), api.ErrWho}, {leave(math.MinInt), api.ErrWho}, {leave(1<<32 + 1), api.ErrWho}, {leave(256, 1, 1), api.ErrWho},
		{leave(1, 1), api.ErrTwice}, {move([]int{1}, []int{1}), api.ErrTwice}, {move(full, []int{100, 100}), api.ErrTwice}, {leave(1, 1, 256), api.ErrTwice},
		{leave(64), api.ErrNotOn}, {leave(1, 255), api.ErrNotOn}, {move([]int{64}, []int{300}), api.ErrNotOn},
		{join(0), api.ErrOn}, {move([]int{1}, []int{2}), api.ErrOn}, {move([]int{1}, []int{100, 63}), api.ErrOn},
		{join(64), api.ErrGroupFull}, {move([]int{1}, []int{100, 101}), api.ErrGroupFull}, {move(full, people(64, 65)), api.ErrGroupFull}, {join(people(64, 192)...), api.ErrGroupFull},
	} {
		s, d := crowd(t)
		wantBatchRefused(t, s, one.batch, one.want)
		if s.Down() {
			t.Fatalf("Batch of %s: the server is down", told(one.batch))
		}
		d.Up(0)
		wantNoServer(t, d, api.ErrDown)
		d.Up(-1)
		wantBatchRefused(t, s, one.batch, one.want)
		wantWrites(t, d, 0)
		_, message, blocks := stepOf(t, s.Tree(), leave(5))
		if text := went(t, s, leave(5)); text != message {
			t.Fatal("a batch that was refused has changed the next message")
		}
		wantWrites(t, d, 0, writesAt(6, blocks...)...)
		d.Off()
		wantBatchRefused(t, s, one.batch, api.ErrDown)
		wantDownForGood(t, s, d, s.Tree())
	}
}

// P7 and P18.1: of people who are 0 to 255, each once, the leavers on and the joiners not, a batch is refused just by ErrGroupFull, just if the joins are more than the free slots behind the leaves; every number beyond 0 to 255 is ErrWho.
func TestExactRefusals(t *testing.T) {
	chance := rand.New(rand.NewSource(7))
	answers := map[api.Errno]int{}
	for range 400 {
		s := opened(t, disk.New(), 0)
		went(t, s, join(some(chance, people(0, 256), chance.Intn(65))...))
		tree := s.Tree()
		b := move(some(chance, on(tree), chance.Intn(65)), some(chance, off(tree), chance.Intn(100)))
		want := api.OK
		if len(b.Joins) > 64-len(on(tree))+len(b.Leaves) {
			want = api.ErrGroupFull
		}
		if _, e := s.Batch(b); e != want {
			t.Fatalf("%d are on, %d leave, %d join: %d, want %d", len(on(tree)), len(b.Leaves), len(b.Joins), e, want)
		}
		answers[want]++
	}
	if answers[api.OK] < 100 || answers[api.ErrGroupFull] < 100 {
		t.Error("too few of a kind:", answers)
	}
	s, _ := crowd(t)
	for _, n := range farNumbers() {
		wantBatchRefused(t, s, leave(n), api.ErrWho)
		wantBatchRefused(t, s, move([]int{1}, []int{n}), api.ErrWho)
	}
}

// P7, P18.1, P18.3, P18.4: 200 epochs, with nobody and with everybody moving at each of them; no journal is too full for that. At the last epoch every batch is ErrEpochSpent, unless the server is down.
func TestAllEpochs(t *testing.T) {
	for _, crowded := range []bool{false, true} {
		d := disk.New()
		s := opened(t, d, 0)
		for epoch := 1; epoch <= 200; epoch++ {
			b := api.Batch{}
			if crowded {
				b = move(on(s.Tree()), people(epoch%2*64, 64))
			}
			next, message, _ := stepOf(t, s.Tree(), b)
			if text := went(t, s, b); text != message || s.Tree() != next || next.Epoch != epoch {
				t.Fatalf("the epoch %d isn't the one that plan makes", epoch)
			}
		}
		blocks := 200
		if crowded {
			blocks = 6 + 199*8
		}
		if len(d.Writes()) != blocks || len(d.Image()) != blocks {
			t.Errorf("%d blocks are written, want %d", len(d.Image()), blocks)
		}
		for _, again := range []*server.Server{s, opened(t, d, 200), opened(t, from(t, d.Image()), 200)} {
			if again.Tree() != s.Tree() {
				t.Error("opened again it stands at another tree")
			}
			for _, b := range []api.Batch{{}, leave(300), join(1, 1), join(people(0, 65)...)} {
				wantBatchRefused(t, again, b, api.ErrEpochSpent)
			}
		}
		wantWrites(t, d, blocks)
		d.Off()
		wantBatchRefused(t, s, api.Batch{}, api.ErrDown)
	}
}

// stood is a server at the epoch 3, behind three steps, and its payloads.
func stood(t *testing.T) (*server.Server, []string) {
	t.Helper()
	d := disk.New()
	s := opened(t, d, 0)
	for _, b := range []api.Batch{join(1, 2, 3), leave(2), move([]int{1}, []int{7, 8})} {
		went(t, s, b)
	}
	payloads, _ := journal.Scan(d.Image())
	if len(payloads) != 3 {
		t.Fatalf("%d records of three steps", len(payloads))
	}
	return s, payloads
}

// strange are payloads that can't stand behind the third of stood: no records, or records that aren't played.
func strange(t *testing.T) []string {
	t.Helper()
	_, payloads := stood(t)
	right := api.Record{Epoch: 4, Fresh: 34, Joins: []api.Seat{{Who: 9, Slot: 3}}}
	list := []string{"", "x", "\x00", payloads[0], payloads[1], payloads[2], strings.Repeat("\x00", 24), strings.Repeat("z", 5865)}
	text := recordBytes(t, right)
	list = append(list, text+"\x00", text[:len(text)-1], "\x00"+text, "\xc9"+text[1:])
	for _, change := range []func(*api.Record){
		func(r *api.Record) { r.Epoch = 3 }, func(r *api.Record) { r.Epoch = 5 }, func(r *api.Record) { r.Fresh++ }, func(r *api.Record) { r.Fresh-- },
		func(r *api.Record) { r.Joins[0].Slot = 4 }, func(r *api.Record) { r.Joins[0].Slot = 2 }, func(r *api.Record) { r.Joins[0].Slot = 0 }, func(r *api.Record) { r.Joins[0].Who = 7 },
		func(r *api.Record) { r.Joins = nil }, func(r *api.Record) { r.Leaves = []int{9} }, func(r *api.Record) { r.Leaves = []int{3} }, func(r *api.Record) { r.Leaves = []int{1} },
	} {
		one := right
		one.Joins = slices.Clone(right.Joins)
		change(&one)
		list = append(list, recordBytes(t, one))
	}
	return list
}

func recordBytes(t *testing.T, r api.Record) string {
	t.Helper()
	text, e := record.Write(r)
	if e != api.OK {
		t.Fatalf("the record %v: %d", r, e)
	}
	return text
}

// P18.1: the record that fits behind the third of stood is played, so that what strange changes is what is refused.
func TestAppendedByHand(t *testing.T) {
	s, payloads := stood(t)
	text := recordBytes(t, api.Record{Epoch: 4, Fresh: 34, Joins: []api.Seat{{Who: 9, Slot: 3}}})
	next, _, _ := stepOf(t, s.Tree(), join(9))
	if opened(t, from(t, laid(append(payloads, text)...)), 4).Tree() != next {
		t.Error("a record that was laid by hand leads to another tree")
	}
}

// P18.1: a payload that is no record, or isn't played, is ErrRecord, wherever it stands and whatever stands behind it; nothing else is written than the wiping.
func TestStrangeRecords(t *testing.T) {
	_, payloads := stood(t)
	for _, text := range strange(t) {
		d := from(t, laid(append(slices.Clone(payloads), text)...))
		for range 2 {
			wantNoServer(t, d, api.ErrRecord)
			wantWrites(t, d, 0)
		}
		wantNoServer(t, from(t, laid(append(slices.Clone(payloads), text, payloads[0])...)), api.ErrRecord)
		d.Off()
		wantNoServer(t, d, api.ErrDown)
	}
	for _, list := range [][]string{{payloads[1]}, {payloads[0], payloads[0]}, {payloads[0], payloads[2]}, {payloads[1], payloads[0]}, {"", payloads[0]}, {"x", payloads[0], payloads[1], payloads[2]}, {payloads[0], "x", payloads[1]}} {
		wantNoServer(t, from(t, laid(list...)), api.ErrRecord)
	}
}

// P18.1: what is wiped behind a strange record is wiped, and the power that goes while wiping comes ahead of the record.
func TestStrangeRecordsAndRests(t *testing.T) {
	_, payloads := stood(t)
	whole := laid(append(payloads, "x")...)
	rests := []string{blockOf(5, 0, 3, strings.Repeat("r", 23)), "", blockOf(5, 1, 3, strings.Repeat("r", 23)), "q"}
	wipes := []api.Write{{At: len(whole)}, {At: len(whole) + 2}, {At: len(whole) + 3}}
	for power := range 4 {
		d := from(t, slices.Concat(whole, rests))
		d.Up(power)
		wantNoServer(t, d, api.ErrDown)
		wantWrites(t, d, 0, wipes[:power]...)
		d.Up(4 - power)
		wantNoServer(t, d, api.ErrRecord)
		wantWrites(t, d, 0, wipes...)
		if !slices.Equal(d.Image(), whole) {
			t.Fatal("the records haven't stayed, or the rests have")
		}
	}
	d := from(t, slices.Concat(whole, rests))
	wantNoServer(t, d, api.ErrRecord)
	wantWrites(t, d, 0, wipes...)
}

// P18.1, P18.3: rests behind the last whole record are wiped; disks of texts that are no blocks at all tell Start.
func TestRests(t *testing.T) {
	s, payloads := stood(t)
	whole := laid(payloads...)
	for _, rests := range [][]string{
		{}, {"q"}, {"", "", "q"}, {blockOf(5, 0, 1, "x")}, {blockOf(3, 0, 1, payloads[2])}, framed(4, strings.Repeat("m", 60))[:2], framed(4, strings.Repeat("m", 60))[1:],
		{blockOf(4, 0, 1, "x")[:31]}, {blockOf(4, 0, 1, "x")[:31] + "\x00"},
	} {
		d := from(t, slices.Concat(whole, rests))
		if again := opened(t, d, 3); again.Tree() != s.Tree() {
			t.Fatal("rests have changed the tree")
		}
		if !slices.Equal(d.Image(), whole) {
			t.Fatal("the disk has more than the journal's blocks")
		}
		n := len(d.Writes())
		opened(t, d, 3)
		wantWrites(t, d, n)
	}
	for _, image := range [][]string{{"x"}, {"", "", strings.Repeat("\x00", 32)}, make([]string, 2048), slices.Repeat([]string{"y"}, 2048)} {
		d := from(t, image)
		if opened(t, d, 0).Tree() != keytree.Start() || len(d.Image()) != 0 {
			t.Fatal("no journal, but no Start either")
		}
	}
}

// P18.2 and P5: however a step was cut, and whatever power the openings behind it are given, the tree is the one ahead of the step, or the one behind it just if all blocks of its record were written.
func TestCutsInRecovery(t *testing.T) {
	openings := 0
	for _, size := range sized() {
		for power := range size.blocks + 1 {
			s, d := crowd(t)
			start := d.Image()
			want := s.Tree()
			next, _, _ := stepOf(t, want, size.batch)
			d.Up(power)
			wantBatchRefused(t, s, size.batch, api.ErrDown)
			rests := power
			if power == size.blocks {
				want, rests, start = next, 0, d.Image()
			}
			openings += openEachWay(t, d.Image(), rests, want, start)
		}
	}
	if openings < 500 {
		t.Error("only", openings, "openings")
	}
}

// openEachWay opens the image with each power: with as much as there are rests, or less, it is cut, and opened each way again. It answers how often it was opened.
func openEachWay(t *testing.T, image []string, rests int, want api.Tree, whole []string) int {
	t.Helper()
	openings := 0
	for power := -1; power <= rests+1; power++ {
		openings++
		d := from(t, image)
		d.Up(power)
		if power < 0 || power > rests || rests == 0 && power > 0 {
			if opened(t, d, want.Epoch).Tree() != want || !slices.Equal(d.Image(), whole) || len(d.Writes()) != rests {
				t.Fatalf("power for %d, %d rests: another tree, or other blocks", power, rests)
			}
			continue
		}
		wantNoServer(t, d, api.ErrDown)
		if len(d.Writes()) != power {
			t.Fatalf("power for %d, %d rests: %d are wiped", power, rests, len(d.Writes()))
		}
		if power > 0 {
			openings += openEachWay(t, d.Image(), rests-power, want, whole)
		}
	}
	return openings
}

// reopened opens the disk with any power till one opening is answered with OK.
func reopened(t *testing.T, chance *rand.Rand, d *disk.Disk) *server.Server {
	t.Helper()
	for range 1000 {
		d.Up(chance.Intn(6) - 1)
		s, e := server.Open(d)
		if e == api.OK {
			return s
		}
		if s != nil || e != api.ErrDown {
			t.Fatalf("Open: a server %v, %d", s != nil, e)
		}
	}
	t.Fatal("no opening is answered with OK")
	return nil
}

// P18.2, P18.3, P2: the same over rows of batches, told by the disk's own writes: how many blocks a record has, and how many were written.
func TestRowsOfCuts(t *testing.T) {
	kinds := map[string]int{}
	for seed := range int64(60) {
		chance := rand.New(rand.NewSource(seed))
		d := disk.New()
		s := reopened(t, chance, d)
		row := []api.Tree{keytree.Start()}
		for range 25 {
			now := row[len(row)-1]
			if s.Tree() != now {
				t.Fatal("the server isn't at the row's last tree")
			}
			b := drawGood(chance, now)
			next, _, blocks := stepOf(t, now, b)
			d.Up(chance.Intn(len(blocks)+3) - 1)
			writes := len(d.Writes())
			_, e := s.Batch(b)
			written := len(d.Writes()) - writes
			if e == api.OK || written == len(blocks) {
				row = append(row, next)
			}
			if e == api.OK {
				kinds["ok"]++
				continue
			}
			kinds[map[bool]string{true: "whole", false: "cut"}[written == len(blocks)]]++
			s = reopened(t, chance, d)
		}
		wantStandsFor(t, d, row)
	}
	if kinds["ok"] < 100 || kinds["whole"] < 100 || kinds["cut"] < 100 {
		t.Error("too few of a kind:", kinds)
	}
}

// wantStandsFor holds that the disk tells the row's last tree, and has its records alone.
func wantStandsFor(t *testing.T, d *disk.Disk, row []api.Tree) {
	t.Helper()
	d.Up(-1)
	if opened(t, d, len(row)-1).Tree() != row[len(row)-1] {
		t.Fatal("opened again, it is at another tree")
	}
	payloads, end := journal.Scan(d.Image())
	if len(payloads) != len(row)-1 || end != len(d.Image()) {
		t.Fatalf("%d records for %d epochs, and %d blocks behind them", len(payloads), len(row)-1, len(d.Image())-end)
	}
}

// P18.3: after steps that were answered with OK, and batches that were refused, the server is found again, on the disk itself, on one that begins with its image, and at each earlier epoch on the disk cut there.
func TestOpenedAgain(t *testing.T) {
	for seed := range int64(25) {
		chance := rand.New(rand.NewSource(seed))
		d := disk.New()
		s := opened(t, d, 0)
		var blocks []string
		behind := map[int]api.Tree{0: s.Tree()}
		for range 20 {
			b := drawBatch(chance, s.Tree())
			next, m, e := plan.Next(s.Tree(), b)
			if e != api.OK {
				wantBatchRefused(t, s, b, e)
				continue
			}
			went(t, s, b)
			blocks = append(blocks, framed(next.Epoch, recordOf(next, b, m.Joins))...)
			behind[len(blocks)] = next
		}
		if !slices.Equal(d.Image(), blocks) || len(d.Writes()) != len(blocks) {
			t.Fatal("the disk has other blocks than the steps' records")
		}
		for _, again := range []*disk.Disk{d, from(t, blocks), d.Cut(len(blocks))} {
			if opened(t, again, s.Tree().Epoch).Tree() != s.Tree() || !slices.Equal(again.Image(), blocks) {
				t.Fatal("opened again, it is at another tree, or the disk has other blocks")
			}
		}
		wantEachCut(t, d, behind)
	}
}

// wantEachCut opens the disk as it was behind each number of its writes: the tree is that of the last record that was whole by then.
func wantEachCut(t *testing.T, d *disk.Disk, behind map[int]api.Tree) {
	t.Helper()
	want, whole := keytree.Start(), 0
	for n := range len(d.Writes()) + 1 {
		if tree, ok := behind[n]; ok {
			want, whole = tree, n
		}
		cut := d.Cut(n)
		if opened(t, cut, want.Epoch).Tree() != want || len(cut.Image()) != whole {
			t.Fatalf("cut behind %d writes: another tree, or other blocks", n)
		}
	}
}

// sent is what left of a row, and at which epochs servers were opened.
type sent struct {
	epochs   []int
	messages []string
}

// P18.4 and P5: the epochs of the messages that leave rise, none is above the epoch of a server that is opened later; each message is that of the row which the journal tells at last; no name begins in two of its epochs, and none in a message before it began.
func TestWhatLeft(t *testing.T) {
	lost, kept := 0, 0
	for seed := range int64(60) {
		chance := rand.New(rand.NewSource(seed + 500))
		d := disk.New()
		var out sent
		s := reopened(t, chance, d)
		for range 40 {
			epoch := s.Tree().Epoch
			d.Up(chance.Intn(12) - 2)
			if text, e := s.Batch(drawGood(chance, s.Tree())); e == api.OK {
				out.leaves(t, text, epoch+1)
				continue
			}
			s = reopened(t, chance, d)
			if s.Tree().Epoch < out.last() {
				t.Fatalf("opened at the epoch %d, but %d has left", s.Tree().Epoch, out.last())
			}
			if s.Tree().Epoch == epoch {
				lost++
			} else {
				kept++
			}
		}
		wantRowOf(t, d, out)
	}
	if lost < 100 || kept < 100 {
		t.Errorf("%d steps were lost, %d were kept: too few", lost, kept)
	}
}

func (o *sent) last() int {
	if len(o.epochs) == 0 {
		return 0
	}
	return o.epochs[len(o.epochs)-1]
}

func (o *sent) leaves(t *testing.T, text string, epoch int) {
	t.Helper()
	m, e := wire.Decode(text)
	if e != api.OK || m.Kind != api.KindRekey || m.Rekey.Epoch != epoch {
		t.Fatalf("what left is no message of the epoch %d: %d, %v", epoch, e, m.Rekey.Epoch)
	}
	if epoch <= o.last() {
		t.Fatalf("the epoch %d has left behind %d", epoch, o.last())
	}
	o.epochs, o.messages = append(o.epochs, epoch), append(o.messages, text)
}

// names are those that a tree has.
func names(tree api.Tree) map[int]bool {
	out := map[int]bool{}
	for _, key := range tree.Keys {
		out[key.Base] = true
	}
	for _, entry := range tree.Roster {
		if entry.Base != 0 {
			out[entry.Base] = true
		}
	}
	return out
}

// wantRowOf plays the journal, and holds what left against it.
func wantRowOf(t *testing.T, d *disk.Disk, out sent) {
	t.Helper()
	payloads, _ := journal.Scan(d.Image())
	tree := keytree.Start()
	began := map[int]int{}
	for name := range names(tree) {
		began[name] = 0
	}
	messages := map[int]string{}
	for _, payload := range payloads {
		r, _ := record.Read(payload)
		next, m, e := record.Play(tree, r)
		if e != api.OK {
			t.Fatalf("the journal isn't played: %d", e)
		}
		old := names(tree)
		for name := range names(next) {
			if _, twice := began[name]; twice && !old[name] {
				t.Fatalf("the name %d begins twice", name)
			}
			if !old[name] {
				began[name] = next.Epoch
			}
		}
		messages[next.Epoch] = messageOf(m)
		tree = next
	}
	for i, epoch := range out.epochs {
		if messages[epoch] != out.messages[i] {
			t.Fatalf("the message of the epoch %d that left isn't the row's", epoch)
		}
		m, _ := wire.Decode(out.messages[i])
		for _, box := range wire.Boxes(m) {
			for _, name := range []int{box.Under.Base, box.Load.Base} {
				if first, is := began[name]; !is || first > epoch {
					t.Fatalf("the name %d has left at the epoch %d", name, epoch)
				}
			}
		}
	}
}

// P18.1: cards of everybody, and of numbers that nobody has, ahead of steps, behind them, and behind a step with which somebody left.
func TestCards(t *testing.T) {
	d := disk.New()
	s := opened(t, d, 0)
	cards := 0
	for _, b := range []api.Batch{{}, join(5, 0, 255), {}, move([]int{0}, []int{9}), leave(255), {}, join(people(100, 62)...)} {
		went(t, s, b)
		c := &clerk{book: newBook(), tree: s.Tree()}
		for _, who := range append(people(-3, 262), farNumbers()...) {
			got, e := s.Card(who)
			want, number := c.card(who)
			if got != want || e != number {
				t.Fatalf("epoch %d, Card of %d: %v, %d; want %v, %d", s.Tree().Epoch, who, got, e, want, number)
			}
			if e == api.OK {
				cards++
			}
		}
	}
	if cards != 0+3+3+3+2+2+64 {
		t.Errorf("%d cards", cards)
	}
	if c, e := s.Card(5); c != (api.Card{Who: 5, Slot: 0, Epoch: 7, Leaf: k(22, 5)}) || e != api.OK {
		t.Errorf("the card of 5: %v, %d", c, e)
	}
	if c, e := s.Card(9); c != (api.Card{Who: 9, Slot: 1, Epoch: 7, Leaf: k(28, 3)}) || e != api.OK {
		t.Errorf("the card of 9: %v, %d", c, e)
	}
	if c, e := s.Card(0); c != (api.Card{}) || e != api.ErrNotOn {
		t.Errorf("the card of who has left: %v, %d", c, e)
	}
}

// P18.1: all requests that there are, and the texts like them with epochs that no request has, at a tree: the reply, ErrNotOn ahead of ErrAhead, ErrWire; nothing changes.
func TestEveryRequest(t *testing.T) {
	d := disk.New()
	s := opened(t, d, 0)
	for _, b := range []api.Batch{join(people(190, 60)...), leave(200, 201), move([]int{190}, []int{0, 255}), {}} {
		went(t, s, b)
	}
	tree, writes := s.Tree(), len(d.Writes())
	c := &clerk{book: newBook(), tree: tree}
	answers := map[api.Errno]int{}
	for who := range 256 {
		for epoch := range 256 {
			text := requestOf(who, epoch)
			got, e := s.Serve(text)
			want, number := c.serve(text)
			if got != want || e != number {
				t.Fatalf("who %d, epoch %d: %x, %d; want %x, %d", who, epoch, got, e, want, number)
			}
			answers[e]++
		}
	}
	if !maps.Equal(answers, map[api.Errno]int{api.OK: 59 * 4, api.ErrAhead: 59 * 196, api.ErrNotOn: 197 * 200, api.ErrWire: 256 * 56}) {
		t.Error("answers:", answers)
	}
	if s.Tree() != tree || s.Down() {
		t.Error("requests have changed the server")
	}
	wantWrites(t, d, writes)
}

// P18.1, R1: texts that are no request: the other kinds of message, a byte more, a byte less, no byte, a bit in the filling, all texts of up to two bytes.
func TestNoRequests(t *testing.T) {
	s, _ := stood(t)
	right := requestOf(3, 1)
	reply, e := s.Serve(right)
	if e != api.OK {
		t.Fatal(e)
	}
	rekey := went(t, s, api.Batch{})
	said, _ := wire.Encode(api.Message{Kind: api.KindData, Sealed: api.Sealed{Epoch: 3, Under: k(1, 3), Text: "hello"}})
	wrong := []string{"", right + "\x00", right + right, right[:2], right[1:], right[:1], right[:2] + string([]byte{right[2] | 1}), right[:2] + string([]byte{right[2] | 32}), reply, rekey, said, "x", strings.Repeat("\x40", 4), strings.Repeat("z", 100000)}
	for bit := range 6 {
		wrong = append(wrong, right[:2]+string([]byte{right[2] ^ 1<<bit}))
	}
	for one := range 256 {
		wrong = append(wrong, string([]byte{byte(one)}))
		for two := range 256 {
			wrong = append(wrong, string([]byte{byte(one), byte(two)}))
		}
	}
	for _, kind := range []byte{0x00, 0x80, 0xc0} {
		wrong = append(wrong, string([]byte{right[0]&0x3f | kind, right[1], right[2]}))
	}
	for _, text := range wrong {
		if got, e := s.Serve(text); got != "" || e != api.ErrWire {
			t.Fatalf("Serve of %.20x: %x, %d; want ErrWire", text, got, e)
		}
	}
}

// P18.1: at Start nobody is on, so every request is ErrNotOn.
func TestServeAtStart(t *testing.T) {
	s := opened(t, disk.New(), 0)
	for who := range 256 {
		for _, epoch := range []int{1, 2, 200} {
			if reply, e := s.Serve(requestOf(who, epoch)); reply != "" || e != api.ErrNotOn {
				t.Fatalf("who %d: %q, %d", who, reply, e)
			}
		}
	}
}

// P18.1, R3, and DOC.md's P12 as far as it speaks of requests: with questions between them, answered or not, the steps' messages and writes are the same as without them.
func TestQuestionsChangeNothing(t *testing.T) {
	chance := rand.New(rand.NewSource(3))
	quiet, loud := disk.New(), disk.New()
	one, other := opened(t, quiet, 0), opened(t, loud, 0)
	for range 60 {
		for range 10 {
			other.Serve(drawText(chance, other.Tree()))
			other.Card(chance.Intn(300))
			other.Down()
			shown := other.Tree()
			shown.Epoch, shown.Fresh, shown.Keys[0], shown.Roster[0] = 7, 8, k(9, 9), api.Entry{}
			other.Batch(leave(256 + chance.Intn(9)))
		}
		b := drawGood(chance, one.Tree())
		if went(t, one, b) != went(t, other, b) || one.Tree() != other.Tree() {
			t.Fatal("questions have changed a step")
		}
	}
	if !slices.Equal(quiet.Writes(), loud.Writes()) {
		t.Error("questions have changed what is written")
	}
}

// P18.1, and DOC.md's P6 as far as this chapter goes: the reply to the request of a device that lags, or has but its card, leads it to the server's tree; so does it when the server was opened again in between.
func TestRepliesLeadDevices(t *testing.T) {
	chance := rand.New(rand.NewSource(11))
	led := 0
	for range 30 {
		d := disk.New()
		s := opened(t, d, 0)
		devices := map[int]api.Member{}
		for range 12 {
			b := drawGood(chance, s.Tree())
			went(t, s, b)
			if chance.Intn(4) == 0 {
				s = opened(t, d, s.Tree().Epoch)
			}
			for _, who := range b.Leaves {
				delete(devices, who)
			}
			for _, who := range b.Joins {
				card, _ := s.Card(who)
				devices[who], _ = member.Seated(card)
			}
			for _, who := range slices.Sorted(maps.Keys(devices)) {
				if chance.Intn(3) == 0 {
					devices[who] = asksAndTakes(t, s, devices[who])
					led++
				}
			}
		}
	}
	if led < 300 {
		t.Error("only", led, "were led")
	}
}

func asksAndTakes(t *testing.T, s *server.Server, m api.Member) api.Member {
	t.Helper()
	q, _ := recovery.Ask(m)
	text, e := s.Serve(requestOf(q.Who, q.Epoch))
	p, f := wire.Decode(text)
	if e != api.OK || f != api.OK || p.Kind != api.KindReply {
		t.Fatalf("the request %v: %d, %d", q, e, f)
	}
	if m.Has && m.Epoch == s.Tree().Epoch {
		return m
	}
	next, e := recovery.Take(m, p.Reply)
	want, f := keytree.Stand(s.Tree(), m.Who)
	if e != api.OK || f != api.OK || next != want {
		t.Fatalf("the reply leads %d to %v, %d; want %v", m.Who, next, e, want)
	}
	return next
}

// P8, and P18.1: each message that leaves has at most 12 items for each who moves, and its boxes are of its epoch: no key of an earlier one opens them.
func TestMessagesCost(t *testing.T) {
	chance := rand.New(rand.NewSource(5))
	for range 20 {
		s := opened(t, disk.New(), 0)
		for range 20 {
			b := drawGood(chance, s.Tree())
			m, _ := wire.Decode(went(t, s, b))
			if len(m.Rekey.Items) > 12*(len(b.Leaves)+len(b.Joins)) {
				t.Fatalf("%d items for %d moves", len(m.Rekey.Items), len(b.Leaves)+len(b.Joins))
			}
			for _, item := range m.Rekey.Items {
				under, _ := keytree.KeyOf(s.Tree(), item.From)
				load, _ := keytree.KeyOf(s.Tree(), item.Node)
				if box, _ := key.Seal(under, load); item.Box != box {
					t.Fatalf("the item %v isn't of the server's tree", item)
				}
			}
		}
	}
}

// R6: two servers on two disks have nothing to do with one another, whichever goes down.
func TestTwoServers(t *testing.T) {
	answers := map[string]int{}
	for seed := range int64(20) {
		one, other := begun(t, seed, answers, newBook()), begun(t, seed+300, answers, newBook())
		for range 40 {
			one.play(2)
			other.play(1)
			one.look()
		}
	}
	a, b := disk.New(), disk.New()
	first, second := opened(t, a, 0), opened(t, b, 0)
	went(t, first, join(1))
	if second.Tree() != keytree.Start() || len(b.Writes()) != 0 {
		t.Error("the one's step is the other's")
	}
	a.Off()
	wantBatchRefused(t, first, api.Batch{}, api.ErrDown)
	if second.Down() || went(t, second, join(1)) != firstMessage() {
		t.Error("the one's power is the other's")
	}
}

// R6: what is done to a cut of the disk, or to a disk that begins with its image, isn't the server's, nor the other way about.
func TestCopiesOfTheDisk(t *testing.T) {
	s, d := crowd(t)
	copies := []*disk.Disk{d.Cut(100), from(t, d.Image())}
	for _, other := range copies {
		again := opened(t, other, 1)
		went(t, again, leave(1))
		other.Off()
	}
	if s.Down() || s.Tree().Epoch != 1 || len(d.Writes()) != 0 {
		t.Error("another disk's server has changed this one")
	}
	_, message, _ := stepOf(t, s.Tree(), leave(2))
	if went(t, s, leave(2)) != message {
		t.Error("another disk's server has changed this one's step")
	}
}

// R4, R5: a batch's lists stay as they are, spare room included, and aren't kept; nil and empty ones are the same.
func TestBatchesStay(t *testing.T) {
	s, d := crowd(t)
	leaves, joins := make([]int, 3, 9), make([]int, 2, 9)
	copy(leaves[:9], []int{5, 6, 7, 91, 92, 93, 94, 95, 96})
	copy(joins[:9], []int{100, 101, 81, 82, 83, 84, 85, 86, 87})
	before, after := slices.Clone(leaves[:9]), slices.Clone(joins[:9])
	b := move(leaves, joins)
	_, message, _ := stepOf(t, s.Tree(), b)
	if went(t, s, b) != message {
		t.Fatal("another message")
	}
	if !slices.Equal(leaves[:9], before) || !slices.Equal(joins[:9], after) {
		t.Fatal("the batch has changed")
	}
	tree := s.Tree()
	clear(leaves[:9])
	clear(joins[:9])
	if s.Tree() != tree || opened(t, d, 2).Tree() != tree {
		t.Fatal("the batch is kept")
	}
	wantBatchRefused(t, s, move([]int{70}, joins[:0]), api.ErrNotOn)
	other := opened(t, from(t, d.Image()), 2)
	if went(t, s, api.Batch{}) != went(t, other, move([]int{}, []int{})) {
		t.Fatal("nil and empty lists lead to different steps")
	}
}

// P1, R1: no call panics on whatever batches, numbers and texts, in any row; long lists too.
func TestAnything(t *testing.T) {
	chance := rand.New(rand.NewSource(9))
	far := append(farNumbers(), people(-2, 300)...)
	draw := func(n int) []int {
		var list []int
		for range chance.Intn(n) {
			list = append(list, far[chance.Intn(len(far))])
		}
		return list
	}
	steps := 0
	for range 60 {
		d := disk.New()
		s := opened(t, d, 0)
		for range 40 {
			s.Batch(move(draw(4), draw(4)))
			s.Card(far[chance.Intn(len(far))])
			s.Serve(drawText(chance, s.Tree()))
			d.Up(chance.Intn(9) - 2)
			if again, e := server.Open(d); e == api.OK {
				s = again
			}
		}
		steps += s.Tree().Epoch
	}
	if steps < 300 {
		t.Error("hardly a step was gone:", steps)
	}
	s, _ := crowd(t)
	wantBatchRefused(t, s, leave(make([]int, 1000000)...), api.ErrTwice)
	wantBatchRefused(t, s, join(make([]int, 1000000)...), api.ErrOn)
	wantBatchRefused(t, s, join(slices.Repeat([]int{256}, 1000000)...), api.ErrWho)
}
