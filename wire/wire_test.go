package wire_test

import (
	"fmt"
	"math"
	"math/rand"
	"slices"
	"strconv"
	"strings"
	"testing"

	"coterie/api"
	"coterie/keytree"
	"coterie/plan"
	"coterie/wire"
)

func k(base, step int) api.Key { return api.Key{Base: base, Step: step} }

func box(under, load api.Key) api.Box { return api.Box{Under: under, Load: load} }

func seat(who, slot int) api.Seat { return api.Seat{Who: who, Slot: slot} }

func item(node, from int, b api.Box) api.Item { return api.Item{Node: node, From: from, Box: b} }

// plain and other are good boxes without numbers at their bounds; least and most have nothing but such numbers.
func plain() api.Box { return box(k(12, 3), k(40, 0)) }

func other() api.Box { return box(k(32768, 17), k(300, 201)) }

func least() api.Box { return box(k(1, 0), k(1, 0)) }

func most() api.Box { return box(k(65535, 255), k(65535, 255)) }

func rekey(epoch int, leaves, joins []api.Seat, items ...api.Item) api.Message {
	return api.Message{Kind: api.KindRekey, Rekey: api.Rekey{Epoch: epoch, Leaves: leaves, Joins: joins, Items: items}}
}

func request(who, epoch int) api.Message {
	return api.Message{Kind: api.KindRequest, Request: api.Request{Who: who, Epoch: epoch}}
}

func reply(who, slot, epoch int, low, middle, root api.Box) api.Message {
	return api.Message{Kind: api.KindReply, Reply: api.Reply{Who: who, Slot: slot, Epoch: epoch, Path: [api.Height]api.Box{low, middle, root}}}
}

func sealed(epoch int, under api.Key, text string) api.Message {
	return api.Message{Kind: api.KindData, Sealed: api.Sealed{Epoch: epoch, Under: under, Text: text}}
}

// seated are n seats with people and slots from some on; beyond the last one they begin again.
func seated(n, who, slot int) []api.Seat {
	var list []api.Seat
	for i := range n {
		list = append(list, seat((who+i)%256, (slot+i)%64))
	}
	return list
}

// children are those of an inner node, as the document's words have them.
func children(v int) []int {
	if v < 0 || v > 20 {
		return nil
	}
	return []int{4*v + 1, 4*v + 2, 4*v + 3, 4*v + 4}
}

// under: does w lie below v, without being it? It goes down through all that lie there.
func under(v, w int) bool {
	for _, c := range children(v) {
		if c == w || under(c, w) {
			return true
		}
	}
	return false
}

// ways are all the pairs that an item may have as Node and From.
func ways() [][2]int {
	var list [][2]int
	for v := range 21 {
		for w := range 85 {
			if under(v, w) {
				list = append(list, [2]int{v, w})
			}
		}
	}
	return list
}

// itemsOf are n items that go through all pairs, with many names and steps.
func itemsOf(n int) []api.Item {
	pairs := ways()
	var list []api.Item
	for i := range n {
		pair := pairs[i%len(pairs)]
		list = append(list, item(pair[0], pair[1], box(k(1+i*37%65535, i%256), k(65535-i*41%65535, 255-i%256))))
	}
	return list
}

// farNumbers are beyond every limit, and among them are those that would look like a number in bounds if a conversion or a field cut them.
func farNumbers() []int {
	return []int{
		-1, -2, -21, -63, -64, -127, -128, -254, -255, -256, -257, -32768, -65535, -65536, -65536 + 22, -1 << 31, -1<<31 + 22, -1 << 32, -1<<32 + 1, math.MinInt, math.MinInt + 1, math.MinInt + 22,
		65536, 65536 + 1, 65536 + 22, 1<<24 + 5, 1<<31 - 1, 1 << 31, 1<<31 + 22, 1<<32 - 1, 1 << 32, 1<<32 + 1, 1<<32 + 22, 1 << 62,
		math.MaxInt - 85, math.MaxInt - 21, math.MaxInt - 1, math.MaxInt,
	}
}

// told gathers the numbers' bits as noughts and ones.
type told struct{ strings.Builder }

func (b *told) number(n, width int) { fmt.Fprintf(b, "%0*b", width, n) }

func (b *told) seat(s api.Seat) {
	b.number(s.Who, 8)
	b.number(s.Slot, 6)
}

func (b *told) key(x api.Key) {
	b.number(x.Base, 16)
	b.number(x.Step, 8)
}

func (b *told) box(x api.Box) {
	b.key(x.Under)
	b.key(x.Load)
}

func (b *told) rekey(m api.Rekey) {
	b.number(m.Epoch, 8)
	for _, seats := range [][]api.Seat{m.Leaves, m.Joins} {
		b.number(len(seats), 7)
		for _, s := range seats {
			b.seat(s)
		}
	}
	b.number(len(m.Items), 11)
	for _, x := range m.Items {
		b.number(x.Node, 5)
		b.number(x.From, 7)
		b.box(x.Box)
	}
}

// modelBits are those of the fields as the chapter names them; the numbers need only be of their widths.
func modelBits(m api.Message) string {
	var b told
	b.number(m.Kind-1, 2)
	switch m.Kind {
	case 1:
		b.rekey(m.Rekey)
	case 2:
		b.number(m.Request.Who, 8)
		b.number(m.Request.Epoch, 8)
	case 3:
		b.seat(seat(m.Reply.Who, m.Reply.Slot))
		b.number(m.Reply.Epoch, 8)
		for _, x := range m.Reply.Path {
			b.box(x)
		}
	case 4:
		b.number(m.Sealed.Epoch, 8)
		b.key(m.Sealed.Under)
		b.number(len(m.Sealed.Text), 7)
		for i := range len(m.Sealed.Text) {
			b.number(int(m.Sealed.Text[i]), 8)
		}
	}
	return b.String()
}

// bytesOf are the bytes of told bits; noughts fill the last one.
func bytesOf(bits string) string {
	var text []byte
	for bits != "" {
		n := min(8, len(bits))
		eight, _ := strconv.ParseUint(bits[:n]+strings.Repeat("0", 8-n), 2, 8)
		text, bits = append(text, byte(eight)), bits[n:]
	}
	return string(text)
}

// bitsOf are the text's bits, told.
func bitsOf(text string) string {
	var b told
	for i := range len(text) {
		b.number(int(text[i]), 8)
	}
	return b.String()
}

func modelBytes(m api.Message) string { return bytesOf(modelBits(m)) }

func within(n, from, to int) bool { return from <= n && n <= to }

func modelKey(x api.Key) bool { return within(x.Base, 1, 65535) && within(x.Step, 0, 255) }

func modelBox(x api.Box) bool { return modelKey(x.Under) && modelKey(x.Load) }

func modelSeat(s api.Seat) bool { return within(s.Who, 0, 255) && within(s.Slot, 0, 63) }

func modelRekey(m api.Rekey) bool {
	if !within(m.Epoch, 1, 200) || len(m.Leaves) > 64 || len(m.Joins) > 64 || len(m.Items) > 1536 {
		return false
	}
	for _, s := range append(slices.Clone(m.Leaves), m.Joins...) {
		if !modelSeat(s) {
			return false
		}
	}
	for _, x := range m.Items {
		if !within(x.Node, 0, 20) || !under(x.Node, x.From) || !modelBox(x.Box) {
			return false
		}
	}
	return true
}

func modelRight(m api.Message) bool {
	hasRekey := m.Rekey.Epoch != 0 || len(m.Rekey.Leaves)+len(m.Rekey.Joins)+len(m.Rekey.Items) != 0
	hasRequest, hasReply, hasSealed := m.Request != api.Request{}, m.Reply != api.Reply{}, m.Sealed != api.Sealed{}
	switch m.Kind {
	case 1:
		return !hasRequest && !hasReply && !hasSealed && modelRekey(m.Rekey)
	case 2:
		return !hasRekey && !hasReply && !hasSealed && within(m.Request.Who, 0, 255) && within(m.Request.Epoch, 1, 200)
	case 3:
		p := m.Reply.Path
		return !hasRekey && !hasRequest && !hasSealed && modelSeat(seat(m.Reply.Who, m.Reply.Slot)) && within(m.Reply.Epoch, 1, 200) &&
			modelBox(p[0]) && modelBox(p[1]) && modelBox(p[2])
	case 4:
		return !hasRekey && !hasRequest && !hasReply && within(m.Sealed.Epoch, 1, 200) && modelKey(m.Sealed.Under) && len(m.Sealed.Text) <= 64
	}
	return false
}

// source takes numbers off told bits; beyond their end all are 0.
type source struct{ bits string }

func (s *source) number(width int) int {
	if len(s.bits) < width {
		s.bits = ""
		return 0
	}
	n, _ := strconv.ParseInt(s.bits[:width], 2, 64)
	s.bits = s.bits[width:]
	return int(n)
}

func (s *source) seat() api.Seat {
	who := s.number(8)
	return seat(who, s.number(6))
}

func (s *source) key() api.Key {
	base := s.number(16)
	return k(base, s.number(8))
}

func (s *source) box() api.Box {
	under := s.key()
	return box(under, s.key())
}

func (s *source) rekey() api.Rekey {
	m := api.Rekey{Epoch: s.number(8)}
	for n := s.number(7); len(m.Leaves) < n; {
		m.Leaves = append(m.Leaves, s.seat())
	}
	for n := s.number(7); len(m.Joins) < n; {
		m.Joins = append(m.Joins, s.seat())
	}
	for n := s.number(11); len(m.Items) < n; {
		node := s.number(5)
		from := s.number(7)
		m.Items = append(m.Items, item(node, from, s.box()))
	}
	return m
}

// modelRead takes nothing but what modelBytes makes of a right message.
func modelRead(text string) (api.Message, bool) {
	s := source{bitsOf(text)}
	m := api.Message{Kind: s.number(2) + 1}
	switch m.Kind {
	case 1:
		m.Rekey = s.rekey()
	case 2:
		m.Request.Who = s.number(8)
		m.Request.Epoch = s.number(8)
	case 3:
		where := s.seat()
		m.Reply.Who, m.Reply.Slot = where.Who, where.Slot
		m.Reply.Epoch = s.number(8)
		for i := range m.Reply.Path {
			m.Reply.Path[i] = s.box()
		}
	case 4:
		m.Sealed.Epoch = s.number(8)
		m.Sealed.Under = s.key()
		for range s.number(7) {
			m.Sealed.Text += string([]byte{byte(s.number(8))})
		}
	}
	if !modelRight(m) || modelBytes(m) != text {
		return api.Message{}, false
	}
	return m, true
}

// modelBoxes are the boxes of any message.
func modelBoxes(m api.Message) []api.Box {
	list := []api.Box{}
	if m.Kind == 1 {
		for i := range m.Rekey.Items {
			list = append(list, m.Rekey.Items[i].Box)
		}
	}
	if m.Kind == 3 {
		list = append(list, m.Reply.Path[0], m.Reply.Path[1], m.Reply.Path[2])
	}
	return list
}

// same: a list that is nil and an empty one are the same.
func same(a, b api.Message) bool {
	return a.Kind == b.Kind && a.Request == b.Request && a.Reply == b.Reply && a.Sealed == b.Sealed && a.Rekey.Epoch == b.Rekey.Epoch &&
		slices.Equal(a.Rekey.Leaves, b.Rekey.Leaves) && slices.Equal(a.Rekey.Joins, b.Rekey.Joins) && slices.Equal(a.Rekey.Items, b.Rekey.Items)
}

// clone is a message of new memory.
func clone(m api.Message) api.Message {
	m.Rekey.Leaves, m.Rekey.Joins, m.Rekey.Items = slices.Clone(m.Rekey.Leaves), slices.Clone(m.Rekey.Joins), slices.Clone(m.Rekey.Items)
	return m
}

// short tells a message, but not all of a long one.
func short(m api.Message) string {
	text := fmt.Sprintf("%v", m)
	if len(text) > 400 {
		return fmt.Sprintf("%s.. (%d leaves, %d joins, %d items)", text[:400], len(m.Rekey.Leaves), len(m.Rekey.Joins), len(m.Rekey.Items))
	}
	return text
}

// wantBytes: the message is right, has these bytes, and is what they are decoded to.
func wantBytes(t *testing.T, m api.Message, want string) {
	t.Helper()
	if !wire.Good(m) {
		t.Fatalf("Good(%s) is false", short(m))
	}
	if text, e := wire.Encode(m); text != want || e != api.OK {
		t.Fatalf("Encode(%s) = %x, %d; want %x", short(m), text, e, want)
	}
	if got, e := wire.Decode(want); !same(got, m) || e != api.OK {
		t.Fatalf("Decode(%x) = %s, %d; want %s", want, short(got), e, short(m))
	}
}

// wantWrong: the message isn't right, and has no bytes.
func wantWrong(t *testing.T, m api.Message) {
	t.Helper()
	if wire.Good(m) {
		t.Fatalf("Good(%s) is true", short(m))
	}
	if text, e := wire.Encode(m); text != "" || e != api.ErrWire {
		t.Fatalf("Encode(%s) = %x, %d", short(m), text, e)
	}
}

// wantNone: the text is no message's.
func wantNone(t *testing.T, text string) {
	t.Helper()
	if m, e := wire.Decode(text); !same(m, api.Message{}) || e != api.ErrWire {
		t.Fatalf("Decode(%x) = %s, %d", text, short(m), e)
	}
}

// wantDecoded: the text is decoded as the model does; was it taken?
func wantDecoded(t *testing.T, text string) bool {
	t.Helper()
	want, ok := modelRead(text)
	if !ok {
		wantNone(t, text)
		return false
	}
	wantBytes(t, want, text)
	return true
}

// P14.1: the chapter's examples 1 and 2.
func TestFirstExamples(t *testing.T) {
	wantBytes(t, request(1, 3), "\x40\x40\xc0")
	wantBytes(t, sealed(2, k(1, 2), "A"), "\xc0\x80\x00\x40\x80\xa0\x80")
}

// P14.1: the chapter's example 3.
func TestRefusedTexts(t *testing.T) {
	wantNone(t, "")
	wantNone(t, "\x40\x40\x00") // the epoch 0
	wantNone(t, "\x40\x72\x40") // the epoch 201
	for fill := 1; fill < 64; fill++ {
		wantNone(t, string([]byte{0x40, 0x40, 0xc0 | byte(fill)}))
	}
}

// P14.1: the chapter's examples 4 and 5.
func TestRefusedMessages(t *testing.T) {
	wantWrong(t, rekey(1, nil, nil, item(5, 25, plain())))
	wantWrong(t, rekey(1, nil, nil, item(5, 5, plain())))
	m := rekey(1, nil, nil, item(0, 25, plain()))
	wantBytes(t, m, modelBytes(m))
	m = request(1, 3)
	m.Sealed.Text = "x"
	wantWrong(t, m)
	wantWrong(t, api.Message{})
	for _, kind := range []int{0, 5} {
		m = request(1, 3)
		m.Kind = kind
		wantWrong(t, m)
	}
}

// P14.1: some messages' bytes by hand.
func TestBytesByHand(t *testing.T) {
	// 00 00000001 0000000 0000000 00000000000
	wantBytes(t, rekey(1, nil, nil), "\x00\x40\x00\x00\x00")
	// 00 11001000 0000000 0000000 00000000000
	wantBytes(t, rekey(200, nil, nil), "\x32\x00\x00\x00\x00")
	// 00 00000001 0000001 11111111 111111 0000000 00000000000
	wantBytes(t, rekey(1, []api.Seat{{Who: 255, Slot: 63}}, nil), "\x00\x40\xff\xfe\x00\x00\x00")
	// 00 00000001 0000000 0000001 11111111 111111 00000000000
	wantBytes(t, rekey(1, nil, []api.Seat{{Who: 255, Slot: 63}}), "\x00\x40\x01\xff\xfc\x00\x00")
	// 00 00000001 0000000 0000000 00000000001 00000 1010100 0000000000000001 00000000 1111111111111111 11111111
	wantBytes(t, rekey(1, nil, nil, item(0, 84, box(k(1, 0), k(65535, 255)))), "\x00\x40\x00\x00\x20\xa8\x00\x02\x01\xff\xff\xfe")
	wantBytes(t, request(0, 1), "\x40\x00\x40")
	wantBytes(t, request(255, 200), "\x7f\xf2\x00")
	// 10 00001001 000011 00000111, and the boxes from a byte's first bit on
	wantBytes(t, reply(9, 3, 7, box(k(1, 0), k(2, 0)), box(k(3, 4), k(515, 6)), box(k(65535, 255), k(7, 8))),
		"\x82\x43\x07\x00\x01\x00\x00\x02\x00\x00\x03\x04\x02\x03\x06\xff\xff\xff\x00\x07\x08")
	// 11 00000001 0000000000000001 00000000 0000000
	wantBytes(t, sealed(1, k(1, 0), ""), "\xc0\x40\x00\x40\x00\x00")
	// 11 11001000 1111111111111111 11111111 0000010 00000000 11111111
	wantBytes(t, sealed(200, k(65535, 255), "\x00\xff"), "\xf2\x3f\xff\xff\xc1\x00\x7f\x80")
}

// edgeMessages are right, and each has a number or a list that is just at its bound.
func edgeMessages() []api.Message {
	list := []api.Message{
		rekey(1, nil, nil), rekey(200, nil, nil),
		rekey(7, seated(1, 0, 0), nil), rekey(7, nil, seated(1, 255, 63)), rekey(7, seated(1, 0, 63), seated(1, 255, 0)),
		rekey(7, []api.Seat{{Who: 5, Slot: 5}, {Who: 5, Slot: 5}}, []api.Seat{{Who: 5, Slot: 5}}, item(5, 21, plain()), item(5, 21, plain())),
		rekey(1, make([]api.Seat, 64), make([]api.Seat, 64)), rekey(2, seated(64, 192, 0), nil), rekey(3, nil, seated(64, 224, 63)),
		rekey(4, seated(63, 3, 9), seated(64, 4, 8)), rekey(5, seated(64, 5, 7), seated(63, 6, 6)),
		rekey(200, seated(64, 0, 0), seated(64, 192, 0), itemsOf(1536)...), rekey(200, nil, nil, itemsOf(1536)...), rekey(9, seated(64, 1, 1), seated(64, 100, 2), itemsOf(1535)...),
		rekey(1, nil, nil, item(0, 1, least())), rekey(1, nil, nil, item(20, 84, most())), rekey(1, nil, nil, item(0, 84, box(k(65535, 0), k(1, 255)))),
		request(0, 1), request(0, 200), request(255, 1), request(255, 200),
		reply(0, 0, 1, least(), least(), least()), reply(255, 63, 200, most(), most(), most()), reply(0, 63, 200, least(), plain(), most()), reply(255, 0, 1, most(), other(), least()),
		sealed(1, k(1, 0), ""), sealed(200, k(65535, 255), strings.Repeat("\xff", 64)), sealed(1, k(65535, 0), strings.Repeat("\x00", 64)), sealed(200, k(1, 255), "\x00"),
		sealed(3, k(9, 9), strings.Repeat("z", 63)), sealed(3, k(9, 9), "\u00fc, \u4e16"),
	}
	for epoch := 1; epoch <= 200; epoch++ {
		list = append(list, rekey(epoch, nil, nil), rekey(epoch, seated(1, epoch, epoch%64), seated(2, epoch+1, epoch%7)), request(epoch, epoch), reply(epoch, epoch%64, epoch, plain(), other(), plain()), sealed(epoch, k(epoch, epoch), "text"))
	}
	return list
}

func chanceKey(chance *rand.Rand) api.Key { return k(1+chance.Intn(65535), chance.Intn(256)) }

func chanceBox(chance *rand.Rand) api.Box { return box(chanceKey(chance), chanceKey(chance)) }

func chanceSeats(chance *rand.Rand, n int) []api.Seat {
	var list []api.Seat
	for range n {
		list = append(list, seat(chance.Intn(256), chance.Intn(64)))
	}
	return list
}

func chanceItems(chance *rand.Rand, n int) []api.Item {
	pairs := ways()
	var list []api.Item
	for range n {
		pair := pairs[chance.Intn(len(pairs))]
		list = append(list, item(pair[0], pair[1], chanceBox(chance)))
	}
	return list
}

// chanceMessage is a right one of the kind, in which anything may stand twice.
func chanceMessage(chance *rand.Rand, kind int) api.Message {
	epoch := 1 + chance.Intn(200)
	switch kind {
	case api.KindRekey:
		return rekey(epoch, chanceSeats(chance, chance.Intn(8)), chanceSeats(chance, chance.Intn(8)), chanceItems(chance, chance.Intn(12))...)
	case api.KindRequest:
		return request(chance.Intn(256), epoch)
	case api.KindReply:
		return reply(chance.Intn(256), chance.Intn(64), epoch, chanceBox(chance), chanceBox(chance), chanceBox(chance))
	}
	text := make([]byte, chance.Intn(65))
	chance.Read(text)
	return sealed(epoch, chanceKey(chance), string(text))
}

// rightMessages are the edges, and others of each kind, with all lengths of the lists.
func rightMessages() []api.Message {
	list := edgeMessages()
	chance := rand.New(rand.NewSource(141))
	for n := range 65 {
		list = append(list, rekey(1+n, chanceSeats(chance, n), nil), rekey(1+n, nil, chanceSeats(chance, n)), rekey(200-n, chanceSeats(chance, n), chanceSeats(chance, 64-n), chanceItems(chance, n)...))
		list = append(list, sealed(1+n, chanceKey(chance), strings.Repeat("a\x80", 32)[:n]))
	}
	for _, n := range []int{100, 127, 128, 255, 256, 511, 512, 768, 1023, 1024, 1025} {
		list = append(list, rekey(1+n%200, nil, nil, chanceItems(chance, n)...))
	}
	for range 100 {
		for kind := 1; kind <= 4; kind++ {
			list = append(list, chanceMessage(chance, kind))
		}
	}
	return list
}

// smallMessages are right ones of each kind, of few bytes.
func smallMessages() []api.Message {
	return []api.Message{
		rekey(9, nil, nil), rekey(9, []api.Seat{{Who: 7, Slot: 4}, {Who: 200, Slot: 60}}, []api.Seat{{Who: 1, Slot: 2}}, item(5, 22, plain()), item(1, 5, other()), item(0, 84, plain())),
		rekey(200, []api.Seat{{Who: 255, Slot: 63}}, nil, item(20, 81, most())), request(1, 3), request(255, 200), request(0, 1),
		reply(9, 3, 7, plain(), other(), plain()), reply(255, 63, 200, most(), least(), most()), sealed(2, k(1, 2), "A"), sealed(2, k(1, 2), ""), sealed(200, k(40000, 255), "some words"),
	}
}

// P14.1, P14.2, P10: each right message's bytes are its fields', and are decoded as the message again.
func TestThereAndBack(t *testing.T) {
	for _, m := range rightMessages() {
		wantBytes(t, m, modelBytes(m))
	}
}

// P14.1, P10: every request there is.
func TestEveryRequest(t *testing.T) {
	for who := range 256 {
		for epoch := 1; epoch <= 200; epoch++ {
			bits := uint32(1)<<22 | uint32(who)<<14 | uint32(epoch)<<6
			wantBytes(t, request(who, epoch), string([]byte{byte(bits >> 16), byte(bits >> 8), byte(bits)}))
		}
	}
}

// P14.1: every seat there is, leaving, joining and answered.
func TestEverySeat(t *testing.T) {
	for who := range 256 {
		for slot := range 64 {
			list := []api.Seat{{Who: who, Slot: slot}}
			for _, m := range []api.Message{rekey(7, list, nil), rekey(7, nil, list), reply(who, slot, 7, plain(), other(), plain())} {
				wantBytes(t, m, modelBytes(m))
			}
		}
	}
}

// P14.1: an item's From is a node, lies below Node and is another one; Node is an inner one.
func TestEveryNode(t *testing.T) {
	count := 0
	numbers := farNumbers()
	for n := -4; n <= 300; n++ {
		numbers = append(numbers, n)
	}
	for _, v := range numbers {
		for _, w := range numbers {
			m := rekey(3, nil, nil, item(v, w, plain()))
			if under(v, w) {
				wantBytes(t, m, modelBytes(m))
				count++
				continue
			}
			wantWrong(t, m)
			if within(v, 0, 31) && within(w, 0, 127) {
				wantNone(t, modelBytes(m))
			}
		}
	}
	// Each of the 84 nodes but the root lies below as many as its level says.
	if count != 4*1+16*2+64*3 {
		t.Errorf("%d pairs are taken", count)
	}
}

// P14.1: every Base and every Step, at each place where a key stands.
func TestEveryKey(t *testing.T) {
	at := func(x api.Key) []api.Message {
		return []api.Message{
			sealed(4, x, "t"), reply(1, 2, 3, box(x, k(5, 6)), box(k(7, 8), x), box(x, x)),
			rekey(5, nil, nil, item(5, 21, box(x, k(9, 9))), item(1, 5, box(k(9, 9), x))),
		}
	}
	look := func(base, step int) {
		for _, m := range at(k(base, step)) {
			if within(base, 1, 65535) {
				wantBytes(t, m, modelBytes(m))
			} else {
				wantWrong(t, m)
				wantNone(t, modelBytes(m))
			}
		}
	}
	for step := range 256 {
		for _, base := range []int{0, 1, 2, 255, 256, 257, 32767, 32768, 65534, 65535} {
			look(base, step)
		}
	}
	for base := 0; base < 65536; base += 13 {
		look(base, base%256)
	}
	for _, n := range append(farNumbers(), 256, 257, 512) {
		for _, x := range []api.Key{k(n, 3), k(3, n), k(n, n)} {
			for _, m := range at(x) {
				if modelKey(x) {
					continue
				}
				wantWrong(t, m)
			}
		}
	}
}

// P14.1: texts of each length, with each byte at each place.
func TestEveryText(t *testing.T) {
	for n := range 65 {
		for c := range 256 {
			text := make([]byte, n)
			for i := range text {
				text[i] = byte(c + 5*i)
			}
			m := sealed(1+c%200, k(1+c, n), string(text))
			wantBytes(t, m, modelBytes(m))
		}
	}
	for n := 65; n <= 300; n++ {
		wantWrong(t, sealed(4, k(3, 2), strings.Repeat("x", n)))
	}
	wantWrong(t, sealed(4, k(3, 2), strings.Repeat("\x00", 1<<20)))
}

// P14.2: no two right messages have one text.
func TestNoTwoAlike(t *testing.T) {
	texts := map[string]api.Message{}
	for _, m := range rightMessages() {
		text, _ := wire.Encode(m)
		if first, ok := texts[text]; ok && !same(m, first) {
			t.Fatalf("%s and %s are both %x", short(m), short(first), text)
		}
		texts[text] = m
	}
}

// neighbours are right messages that differ from the one by a single number, by the order or by one more in a list.
func neighbours(m api.Message) []api.Message {
	var list []api.Message
	for _, spoiled := range altered(m, []int{0, 1, 2, 3, 5, 9, 20, 22, 62, 63, 84, 199, 200, 254, 255, 256, 65535}) {
		if modelRight(spoiled) && !same(spoiled, m) {
			list = append(list, spoiled)
		}
	}
	if m.Kind != api.KindRekey {
		return list
	}
	add := func(change func(*api.Rekey)) {
		one := clone(m)
		if change(&one.Rekey); modelRight(one) && !same(one, m) {
			list = append(list, one)
		}
	}
	add(func(r *api.Rekey) { slices.Reverse(r.Leaves) })
	add(func(r *api.Rekey) { slices.Reverse(r.Items) })
	add(func(r *api.Rekey) { r.Leaves, r.Joins = r.Joins, r.Leaves })
	add(func(r *api.Rekey) { r.Leaves = append(r.Leaves, seat(0, 0)) })
	add(func(r *api.Rekey) { r.Joins = append(r.Joins, seat(0, 0)) })
	add(func(r *api.Rekey) { r.Items = append(r.Items, item(0, 1, least())) })
	return list
}

// P14.2: messages that differ by little have unlike bytes.
func TestNeighboursDiffer(t *testing.T) {
	count := 0
	for _, m := range smallMessages() {
		text, _ := wire.Encode(m)
		for _, near := range neighbours(m) {
			wantBytes(t, near, modelBytes(near))
			if other, _ := wire.Encode(near); other == text {
				t.Fatalf("%s and %s are both %x", short(m), short(near), text)
			}
			count++
		}
	}
	if count < 300 {
		t.Errorf("only %d neighbours", count)
	}
}

// keyPlaces, and so on: pointers to all numbers of a part.
func keyPlaces(x *api.Key) []*int { return []*int{&x.Base, &x.Step} }

func boxPlaces(x *api.Box) []*int { return append(keyPlaces(&x.Under), keyPlaces(&x.Load)...) }

func seatPlaces(list []api.Seat) []*int {
	var places []*int
	for i := range list {
		places = append(places, &list[i].Who, &list[i].Slot)
	}
	return places
}

// places are pointers to all numbers of the message but its kind, those of the other kinds' parts too.
func places(m *api.Message) []*int {
	list := []*int{&m.Rekey.Epoch, &m.Request.Who, &m.Request.Epoch, &m.Reply.Who, &m.Reply.Slot, &m.Reply.Epoch, &m.Sealed.Epoch}
	list = append(list, keyPlaces(&m.Sealed.Under)...)
	list = append(list, seatPlaces(m.Rekey.Leaves)...)
	list = append(list, seatPlaces(m.Rekey.Joins)...)
	for i := range m.Reply.Path {
		list = append(list, boxPlaces(&m.Reply.Path[i])...)
	}
	for i := range m.Rekey.Items {
		x := &m.Rekey.Items[i]
		list = append(list, &x.Node, &x.From)
		list = append(list, boxPlaces(&x.Box)...)
	}
	return list
}

// altered are the message with each of the numbers at each of its places in turn.
func altered(m api.Message, numbers []int) []api.Message {
	var list []api.Message
	for i := range places(&m) {
		for _, n := range numbers {
			one := clone(m)
			*places(&one)[i] = n
			list = append(list, one)
		}
	}
	return list
}

// edgeNumbers are those around every bound.
func edgeNumbers() []int {
	return append(farNumbers(), 0, 1, 2, 20, 21, 22, 63, 64, 65, 84, 85, 86, 127, 128, 199, 200, 201, 202, 254, 255, 256, 257, 511, 512, 65534, 65535)
}

// wantAsModel: Good, Encode and Boxes answer for the message, right or not, as the model does.
func wantAsModel(t *testing.T, m api.Message) bool {
	t.Helper()
	wantBoxes(t, m)
	if modelRight(m) {
		wantBytes(t, m, modelBytes(m))
		return true
	}
	wantWrong(t, m)
	return false
}

func wantBoxes(t *testing.T, m api.Message) {
	t.Helper()
	if got, want := wire.Boxes(m), modelBoxes(m); !slices.Equal(got, want) {
		t.Fatalf("Boxes(%s) = %v; want %v", short(m), got, want)
	}
}

// P14.1: with any one number another one, also in a part of another kind, the message is right just where the chapter has it so.
func TestOtherNumbers(t *testing.T) {
	right, wrong := 0, 0
	for _, m := range smallMessages() {
		for _, one := range altered(m, edgeNumbers()) {
			if wantAsModel(t, one) {
				right++
			} else {
				wrong++
			}
		}
	}
	if right < 1000 || wrong < 10000 {
		t.Errorf("only %d right and %d wrong messages", right, wrong)
	}
}

// P14.1: at the end of long lists the numbers are looked at as well.
func TestLastOfMany(t *testing.T) {
	long := rekey(9, seated(64, 0, 0), seated(64, 64, 0), itemsOf(1536)...)
	for _, n := range []int{-1, 21, 64, 85, 256, 65536} {
		for _, change := range []func(*api.Rekey){
			func(r *api.Rekey) { r.Leaves[63].Who = n }, func(r *api.Rekey) { r.Leaves[63].Slot = n }, func(r *api.Rekey) { r.Joins[63].Who = n }, func(r *api.Rekey) { r.Joins[63].Slot = n },
			func(r *api.Rekey) { r.Items[1535].Node = n }, func(r *api.Rekey) { r.Items[1535].From = n }, func(r *api.Rekey) { r.Items[1535].Box.Under.Step = n }, func(r *api.Rekey) { r.Items[1535].Box.Load.Base = n },
		} {
			m := clone(long)
			change(&m.Rekey)
			wantAsModel(t, m)
		}
	}
	for _, kind := range []func(*api.Box, int){
		func(b *api.Box, n int) { b.Under.Base = n }, func(b *api.Box, n int) { b.Under.Step = n }, func(b *api.Box, n int) { b.Load.Base = n }, func(b *api.Box, n int) { b.Load.Step = n },
	} {
		for i := range 3 {
			m := reply(1, 2, 3, plain(), other(), plain())
			kind(&m.Reply.Path[i], -1)
			wantWrong(t, m)
			kind(&m.Reply.Path[i], 65536)
			wantWrong(t, m)
		}
	}
}

// P14.1, P8: lists with one too many.
func TestTooMany(t *testing.T) {
	for _, n := range []int{65, 66, 100, 127, 128, 129, 192, 256, 257, 320, 65536} {
		wantWrong(t, rekey(1, make([]api.Seat, n), nil))
		wantWrong(t, rekey(1, nil, make([]api.Seat, n)))
		wantWrong(t, rekey(1, make([]api.Seat, n), make([]api.Seat, n)))
	}
	for _, n := range []int{1537, 1538, 2047, 2048, 2049, 3072, 4096, 65536} {
		wantWrong(t, rekey(1, nil, nil, itemsOf(n)...))
	}
	for _, n := range []int{65, 127} {
		wantNone(t, modelBytes(rekey(1, seated(n, 0, 0), nil)))
		wantNone(t, modelBytes(rekey(1, nil, seated(n, 0, 0))))
		wantNone(t, modelBytes(sealed(1, k(1, 1), strings.Repeat("a", n))))
	}
	for _, n := range []int{1537, 1538, 1600, 2047} {
		wantNone(t, modelBytes(rekey(1, nil, nil, itemsOf(n)...)))
	}
}

// P14.1: what belongs to another kind is zero: any number, list or text there spoils the message, also if it makes a right message of that kind.
func TestOtherParts(t *testing.T) {
	all := smallMessages()
	for _, m := range all {
		for _, from := range all {
			mixed := clone(m)
			switch from.Kind {
			case api.KindRekey:
				mixed.Rekey = clone(from).Rekey
			case api.KindRequest:
				mixed.Request = from.Request
			case api.KindReply:
				mixed.Reply = from.Reply
			case api.KindData:
				mixed.Sealed = from.Sealed
			}
			if from.Kind != m.Kind {
				wantWrong(t, mixed)
			}
			wantAsModel(t, mixed)
		}
	}
	for _, m := range all {
		for _, change := range []func(*api.Message){
			func(m *api.Message) { m.Rekey.Leaves = []api.Seat{{}} }, func(m *api.Message) { m.Rekey.Joins = []api.Seat{{}} }, func(m *api.Message) { m.Rekey.Items = []api.Item{{}} },
			func(m *api.Message) { m.Rekey.Items = []api.Item{item(0, 1, plain())} }, func(m *api.Message) { m.Sealed.Text = "\x00" }, func(m *api.Message) { m.Sealed.Text = "x" },
		} {
			one := clone(m)
			change(&one)
			wantAsModel(t, one)
		}
	}
}

// P14.1: there are four kinds.
func TestOtherKinds(t *testing.T) {
	for _, kind := range append(farNumbers(), 0, 5, 6, 7, 8, 9, 255, 256, 257, 258, 259, 260) {
		for _, m := range append(smallMessages(), api.Message{}) {
			m.Kind = kind
			wantWrong(t, m)
			if list := wire.Boxes(m); len(list) != 0 {
				t.Fatalf("the kind %d has the boxes %v", kind, list)
			}
		}
	}
	// One of the four, but with another one's part.
	for _, m := range smallMessages() {
		for kind := 1; kind <= 4; kind++ {
			if kind != m.Kind {
				one := clone(m)
				one.Kind = kind
				wantWrong(t, one)
			}
		}
	}
	for kind := 1; kind <= 4; kind++ {
		wantWrong(t, api.Message{Kind: kind})
	}
}

// P14.3: no strict beginning of a right message's bytes is taken.
func TestCutShort(t *testing.T) {
	for _, m := range rightMessages() {
		text := modelBytes(m)
		for n := range len(text) {
			if len(text) < 400 || n%29 == 0 || n > len(text)-20 {
				wantNone(t, text[:n])
			}
		}
	}
}

// P14.3: nothing longer is taken.
func TestLonger(t *testing.T) {
	for _, m := range rightMessages() {
		text := modelBytes(m)
		for _, more := range []string{"\x00", "\x01", "\x80", "\xff", "\x00\x00", text, strings.Repeat("\x00", 100)} {
			wantNone(t, text+more)
		}
	}
	for _, m := range smallMessages() {
		for c := range 256 {
			wantNone(t, modelBytes(m)+string([]byte{byte(c)}))
		}
		wantNone(t, modelBytes(m)+strings.Repeat("\x00", 1<<20))
	}
}

// P14.1: bits behind the last field are noughts.
func TestBitsBehind(t *testing.T) {
	count := 0
	for _, m := range rightMessages() {
		bits := modelBits(m)
		fill := (8 - len(bits)%8) % 8
		for set := 1; set < 1<<fill; set++ {
			wantNone(t, bytesOf(bits+fmt.Sprintf("%0*b", fill, set)))
			count++
		}
	}
	if count < 10000 {
		t.Errorf("only %d texts", count)
	}
}

// P14.1: texts whose fields all are there, but make no right message.
func TestWrongFields(t *testing.T) {
	for epoch := range 256 {
		for _, m := range []api.Message{rekey(epoch, nil, nil), rekey(epoch, seated(2, 3, 4), seated(1, 9, 9), item(5, 21, plain())), request(4, epoch), reply(4, 5, epoch, plain(), other(), plain()), sealed(epoch, k(6, 7), "ab")} {
			if within(epoch, 1, 200) {
				wantBytes(t, m, modelBytes(m))
			} else {
				wantNone(t, modelBytes(m))
			}
		}
	}
	for n := range 128 {
		wantDecoded(t, modelBytes(rekey(3, seated(n, 200, 50), nil)))
		wantDecoded(t, modelBytes(rekey(3, nil, seated(n, 200, 50), item(0, 3, plain()))))
		wantDecoded(t, modelBytes(sealed(3, k(6, 7), strings.Repeat("u", n))))
	}
	for _, n := range []int{0, 1, 1535, 1536, 1537, 2046, 2047} {
		wantDecoded(t, modelBytes(rekey(3, seated(2, 1, 1), seated(2, 3, 3), itemsOf(n)...)))
	}
	for i := range 3 {
		for _, bad := range []api.Box{box(k(0, 0), k(1, 1)), box(k(1, 1), k(0, 255)), box(k(0, 1), k(0, 1))} {
			m := reply(1, 2, 3, plain(), other(), plain())
			m.Reply.Path[i] = bad
			wantNone(t, modelBytes(m))
		}
	}
	// A wrong item with many right ones about it.
	for _, at := range []int{0, 1, 700, 1534, 1535} {
		for _, bad := range []api.Item{item(21, 22, plain()), item(31, 127, plain()), item(5, 25, plain()), item(5, 5, plain()), item(0, 85, plain()), item(0, 0, plain()), item(0, 1, box(k(0, 1), k(1, 1)))} {
			m := rekey(3, nil, nil, itemsOf(1536)...)
			m.Rekey.Items[at] = bad
			wantNone(t, modelBytes(m))
		}
	}
}

// P14.1, P10: with any one bit turned, a text is no message or another one's.
func TestTurnedBits(t *testing.T) {
	taken := 0
	for _, m := range append(smallMessages(), chanceSmall(40)...) {
		text := modelBytes(m)
		for bit := range 8 * len(text) {
			turned := []byte(text)
			turned[bit/8] ^= 0x80 >> (bit % 8)
			if wantDecoded(t, string(turned)) {
				taken++
			}
		}
	}
	if taken < 1000 {
		t.Errorf("only %d texts are taken", taken)
	}
}

// chanceSmall are so many of each kind.
func chanceSmall(n int) []api.Message {
	chance := rand.New(rand.NewSource(142))
	var list []api.Message
	for range n {
		for kind := 1; kind <= 4; kind++ {
			list = append(list, chanceMessage(chance, kind))
		}
	}
	return list
}

// P14.1, P1: of all texts of at most three bytes the requests alone are taken.
func TestShortTexts(t *testing.T) {
	wantNone(t, "")
	for first := range 256 {
		wantNone(t, string([]byte{byte(first)}))
		for second := range 256 {
			wantNone(t, string([]byte{byte(first), byte(second)}))
		}
	}
	for n := range uint32(1 << 24) {
		// The other kinds' messages are all longer: of the texts that begin as they do, some are tried.
		if n>>22 != 1 && n%61 != 0 {
			continue
		}
		who, epoch := int(n>>14&255), int(n>>6&255)
		want, status := api.Message{}, api.ErrWire
		if n>>22 == 1 && n&63 == 0 && within(epoch, 1, 200) {
			want, status = request(who, epoch), api.OK
		}
		text := string([]byte{byte(n >> 16), byte(n >> 8), byte(n)})
		if m, e := wire.Decode(text); !same(m, want) || e != status {
			t.Fatalf("Decode(%x) = %s, %d", text, short(m), e)
		}
	}
}

// P14.1, P10, P1: any texts: what is taken is what Encode makes of it, and nothing else is.
func TestAnyTexts(t *testing.T) {
	chance := rand.New(rand.NewSource(143))
	for range 20000 {
		text := make([]byte, chance.Intn(60))
		chance.Read(text)
		wantDecoded(t, string(text))
	}
	seeds := append(smallMessages(), chanceSmall(20)...)
	taken := 0
	for range 20000 {
		text := []byte(modelBytes(seeds[chance.Intn(len(seeds))]))
		for range 1 + chance.Intn(3) {
			text[chance.Intn(len(text))] = byte(chance.Intn(256))
		}
		switch chance.Intn(6) {
		case 0:
			text = text[:chance.Intn(len(text))]
		case 1:
			text = append(text, make([]byte, chance.Intn(9))...)
		case 2:
			i := chance.Intn(len(text))
			text = append(text[:i:i], text[min(len(text), i+1+chance.Intn(3)):]...)
		}
		if wantDecoded(t, string(text)) {
			taken++
		}
	}
	if taken < 2000 {
		t.Errorf("only %d texts are taken", taken)
	}
	for _, text := range []string{strings.Repeat("\xff", 1<<16), strings.Repeat("\x00", 1<<16), strings.Repeat("\x7f", 1<<16), strings.Repeat("\xbf", 1<<16), strings.Repeat("\x3f", 1<<16), "garbage"} {
		wantDecoded(t, text)
	}
}

// P14.1: the boxes in their order, of messages that are right and of others.
func TestBoxes(t *testing.T) {
	for _, m := range rightMessages() {
		wantBoxes(t, m)
	}
	a, b, c := plain(), other(), box(k(-1, 300), k(0, 0))
	wantList := func(m api.Message, want ...api.Box) {
		t.Helper()
		if got := wire.Boxes(m); !slices.Equal(got, want) {
			t.Errorf("Boxes(%s) = %v; want %v", short(m), got, want)
		}
	}
	wantList(rekey(1, nil, nil, item(5, 21, a), item(1, 5, b), item(5, 21, a)), a, b, a)
	wantList(rekey(0, nil, nil, item(-3, 99, c), item(5, 5, a), item(0, 0, api.Box{})), c, a, api.Box{})
	wantList(rekey(1, seated(3, 0, 0), seated(3, 5, 5)))
	wantList(reply(1, 2, 3, b, a, b), b, a, b)
	wantList(reply(-1, 900, 0, c, a, api.Box{}), c, a, api.Box{})
	wantList(api.Message{Kind: api.KindReply}, api.Box{}, api.Box{}, api.Box{})
	wantList(request(1, 2))
	wantList(sealed(1, k(1, 1), "x"))
	wantList(api.Message{})
	// Parts of another kind aren't looked at.
	mixed := reply(1, 2, 3, a, b, a)
	mixed.Rekey.Items = []api.Item{item(5, 21, c)}
	wantList(mixed, a, b, a)
	for kind, want := range map[int][]api.Box{0: nil, 1: {c}, 2: nil, 4: nil, 5: nil, -1: nil, math.MaxInt: nil, math.MinInt: nil, 257: nil, 259: nil} {
		mixed.Kind = kind
		wantList(mixed, want...)
	}
	wantBoxes(t, rekey(0, nil, nil, itemsOf(5000)...))
}

// chanceBatch fits the tree: so many leave and join of a hundred, as far as there are seats.
func chanceBatch(chance *rand.Rand, tree api.Tree, leaves, joins int) api.Batch {
	var b api.Batch
	on := map[int]int{}
	free := 0
	for _, entry := range tree.Roster {
		if entry.Base == 0 {
			free++
			continue
		}
		on[entry.Who] = 1
		if chance.Intn(100) < leaves {
			b.Leaves = append(b.Leaves, entry.Who)
			free++
		}
	}
	for _, who := range chance.Perm(256) {
		if on[who] == 0 && len(b.Joins) < free && chance.Intn(100) < joins {
			b.Joins = append(b.Joins, who)
		}
	}
	return b
}

// stands: who stands at the tree as the server has it.
func stands(t *testing.T, tree api.Tree, who int) api.Member {
	t.Helper()
	m, e := keytree.Stand(tree, who)
	if e != api.OK {
		t.Fatalf("%d doesn't stand: %d", who, e)
	}
	return m
}

// wantStep: the step's message, and what its people ask, are answered and tell each other, are right, and go there and back.
func wantStep(t *testing.T, tree api.Tree, b api.Batch) api.Tree {
	t.Helper()
	next, r, e := plan.Next(tree, b)
	if e != api.OK {
		t.Fatalf("Next(%v) = %d", b, e)
	}
	if moves := len(b.Leaves) + len(b.Joins); len(r.Items) > 12*moves {
		t.Fatalf("%d items for %d", len(r.Items), moves)
	}
	m := api.Message{Kind: api.KindRekey, Rekey: r}
	wantAsStep(t, m)
	for slot, entry := range next.Roster {
		if entry.Base == 0 || slot%5 != next.Epoch%5 {
			continue
		}
		at := stands(t, next, entry.Who)
		wantAsStep(t, request(at.Who, at.Epoch))
		wantAsStep(t, reply(at.Who, at.Slot, at.Epoch, box(at.Leaf, at.Path[0]), box(at.Leaf, at.Path[1]), box(at.Leaf, at.Path[2])))
		wantAsStep(t, sealed(at.Epoch, at.Path[2], strconv.Itoa(at.Who)))
	}
	return next
}

func wantAsStep(t *testing.T, m api.Message) {
	t.Helper()
	wantBytes(t, m, modelBytes(m))
	wantBoxes(t, m)
}

// P14.1, P14.2, P8: the messages of steps with leavers and joiners, up to the last epoch.
func TestStepsMessages(t *testing.T) {
	tree := keytree.Start()
	chance := rand.New(rand.NewSource(144))
	shares := []int{0, 2, 5, 10, 30, 90}
	for tree.Epoch < api.MaxEpoch {
		tree = wantStep(t, tree, chanceBatch(chance, tree, shares[chance.Intn(5)], shares[chance.Intn(6)]))
	}
}

// P14.1, P8: the step in which everybody leaves and all seats are taken anew, and the first ones by hand.
func TestGreatestSteps(t *testing.T) {
	var first, second []int
	for i := range 64 {
		first, second = append(first, i), append(second, 255-i)
	}
	tree := wantStep(t, keytree.Start(), api.Batch{Joins: first})
	tree = wantStep(t, tree, api.Batch{Leaves: first, Joins: second})
	wantStep(t, tree, api.Batch{Leaves: second})
	wantStep(t, tree, api.Batch{})

	tree = wantStep(t, keytree.Start(), api.Batch{Joins: []int{1, 2, 3}})
	_, r, _ := plan.Next(tree, api.Batch{Leaves: []int{1}})
	want := rekey(2, []api.Seat{{Who: 1, Slot: 0}}, nil,
		item(5, 22, box(k(23, 1), k(25, 0))), item(5, 23, box(k(24, 1), k(25, 0))), item(1, 5, box(k(25, 0), k(26, 0))), item(0, 1, box(k(26, 0), k(27, 0))))
	wantBytes(t, api.Message{Kind: api.KindRekey, Rekey: r}, modelBytes(want))
}

// anyNumber is most often one around the bounds.
func anyNumber(chance *rand.Rand, numbers []int) int {
	if chance.Intn(4) == 0 {
		return int(chance.Uint64())
	}
	return numbers[chance.Intn(len(numbers))]
}

// P1: whatever is handed in is answered, and as the chapter says it.
func TestAnything(t *testing.T) {
	chance := rand.New(rand.NewSource(145))
	numbers := edgeNumbers()
	right := 0
	for range 30000 {
		m := chanceMessage(chance, 1+chance.Intn(4))
		all := places(&m)
		for range chance.Intn(4) {
			*all[chance.Intn(len(all))] = anyNumber(chance, numbers)
		}
		switch chance.Intn(20) {
		case 0:
			m.Kind = anyNumber(chance, numbers)
		case 1:
			m.Sealed.Text += strings.Repeat("e", chance.Intn(70))
		case 2:
			m.Rekey.Leaves = chanceSeats(chance, chance.Intn(70))
		case 3:
			m.Rekey.Items = chanceItems(chance, chance.Intn(5))
		}
		if wantAsModel(t, m) {
			right++
		}
	}
	if right < 5000 || right > 25000 {
		t.Errorf("%d of the messages are right", right)
	}
}

// P1: lists far beyond every limit.
func TestLongLists(t *testing.T) {
	wantWrong(t, rekey(1, make([]api.Seat, 1<<20), make([]api.Seat, 1<<20), make([]api.Item, 1<<20)...))
	m := request(1, 1)
	m.Rekey.Items = make([]api.Item, 1<<20)
	wantWrong(t, m)
	if n := len(wire.Boxes(rekey(1, nil, nil, make([]api.Item, 1<<20)...))); n != 1<<20 {
		t.Errorf("%d boxes", n)
	}
}

// R4: a nil list and an empty one mean the same, in a message's own part and in one of another kind.
func TestEmptyLists(t *testing.T) {
	for _, m := range []api.Message{rekey(9, nil, nil), request(1, 3), reply(9, 3, 7, plain(), other(), plain()), sealed(2, k(1, 2), "A")} {
		one := m
		one.Rekey.Leaves, one.Rekey.Joins, one.Rekey.Items = []api.Seat{}, make([]api.Seat, 0, 5), make([]api.Item, 0, 3)
		wantBytes(t, one, modelBytes(m))
		wantBoxes(t, one)
	}
}

// roomy is a list with spare room, which has something too.
func roomy[T any](list []T, spare T) []T {
	return append(slices.Clone(list), spare, spare, spare)[:len(list)]
}

// unchanged: the list of roomy still has what it had, in its spare room too.
func unchanged[T comparable](own, list []T, spare T) bool {
	return slices.Equal(own, list) && slices.Equal(own[:len(list)+3][len(list):], []T{spare, spare, spare})
}

// R5: lists that are handed in stay, their spare room too, with right messages and with wrong ones.
func TestListsStay(t *testing.T) {
	wrong := rekey(9, seated(3, 250, 60), seated(2, 0, 0), item(5, 25, plain()), item(0, 1, other()))
	many := rekey(9, seated(65, 250, 60), seated(70, 0, 0), itemsOf(1600)...)
	mixed := request(1, 3)
	mixed.Rekey = wrong.Rekey
	spareSeat, spareItem := seat(77, 7), item(7, 77, plain())
	for _, m := range append(rightMessages(), wrong, many, mixed) {
		own := m
		own.Rekey.Leaves, own.Rekey.Joins, own.Rekey.Items = roomy(m.Rekey.Leaves, spareSeat), roomy(m.Rekey.Joins, spareSeat), roomy(m.Rekey.Items, spareItem)
		wire.Good(own)
		wire.Encode(own)
		wire.Boxes(own)
		r := own.Rekey
		if !unchanged(r.Leaves, m.Rekey.Leaves, spareSeat) || !unchanged(r.Joins, m.Rekey.Joins, spareSeat) || !unchanged(r.Items, m.Rekey.Items, spareItem) {
			t.Fatalf("the lists of %s are changed", short(m))
		}
	}
}

// scrawl writes all over a list, its spare room too.
func scrawl[T any](list []T, with T) {
	list = list[:cap(list)]
	for i := range list {
		list[i] = with
	}
}

// R5: the lists that Decode answers are new memory: who writes on one of them changes no other one and no other answer.
func TestMessagesAreNewMemory(t *testing.T) {
	for _, m := range append(smallMessages(), rekey(3, seated(9, 1, 1), seated(9, 20, 20), itemsOf(90)...), rekey(200, seated(64, 0, 0), seated(64, 64, 0), itemsOf(1536)...)) {
		text := modelBytes(m)
		first, _ := wire.Decode(text)
		second, _ := wire.Decode(text)
		scrawl(first.Rekey.Leaves, seat(-9, -9))
		if !slices.Equal(first.Rekey.Joins, m.Rekey.Joins) || !slices.Equal(first.Rekey.Items, m.Rekey.Items) {
			t.Fatalf("%s: the left seats are shared", short(m))
		}
		scrawl(first.Rekey.Joins, seat(-8, -8))
		for _, s := range first.Rekey.Leaves {
			if s != seat(-9, -9) {
				t.Fatalf("%s: the joined seats are shared", short(m))
			}
		}
		scrawl(first.Rekey.Items, item(-7, -7, api.Box{}))
		if third, _ := wire.Decode(text); !same(second, m) || !same(third, m) {
			t.Fatalf("%s: the answers are shared", short(m))
		}
	}
}

// R5: the lists that Boxes answers are new memory.
func TestBoxesAreNewMemory(t *testing.T) {
	for _, m := range append(smallMessages(), rekey(3, nil, nil, itemsOf(90)...)) {
		own := clone(m)
		first, second := wire.Boxes(own), wire.Boxes(own)
		scrawl(first, box(k(-5, -5), k(-5, -5)))
		if want := modelBoxes(m); !same(own, m) || !slices.Equal(second, want) || !slices.Equal(wire.Boxes(own), want) {
			t.Fatalf("the boxes of %s are shared", short(m))
		}
	}
}

// R5, R6: what is written on a message behind the call is not seen in its bytes or boxes.
func TestNothingKeptOfMessages(t *testing.T) {
	own := rekey(3, seated(9, 1, 1), seated(9, 20, 20), itemsOf(90)...)
	want, boxes := modelBytes(own), modelBoxes(own)
	text, _ := wire.Encode(own)
	list := wire.Boxes(own)
	scrawl(own.Rekey.Leaves, seat(0, 0))
	scrawl(own.Rekey.Joins, seat(0, 0))
	scrawl(own.Rekey.Items, item(0, 1, least()))
	if text != want || !slices.Equal(list, boxes) {
		t.Error("the answers hang on the message's memory")
	}
}

// R6: an answer hangs on nothing that was asked before it, refused or not.
func TestNothingKept(t *testing.T) {
	list := append(smallMessages(), request(0, 0), rekey(3, nil, nil, item(5, 5, plain())), api.Message{Kind: 9})
	for _, before := range list {
		for _, m := range list {
			wire.Good(before)
			wire.Decode(modelBytes(before) + "\x01")
			wire.Decode("\x00\x40")
			wire.Encode(before)
			wantAsModel(t, m)
		}
	}
}
