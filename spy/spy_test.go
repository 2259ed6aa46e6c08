package spy_test

import (
	"math"
	"math/rand"
	"reflect"
	"slices"
	"strings"
	"testing"
	"time"

	"coterie/api"
	"coterie/know"
	"coterie/spy"
	"coterie/wire"
)

func key(base, step int) api.Key { return api.Key{Base: base, Step: step} }

func boxOf(under, load api.Key) api.Box { return api.Box{Under: under, Load: load} }

// box is a good box that no other number has, of the server's names.
func box(n int) api.Box { return boxOf(key(100+n, n%7), key(3000+n, n%5)) }

var own = api.Key{Base: api.OwnBase}

var blankBox = api.Box{Under: own, Load: own}

func seat(who, slot int) api.Seat { return api.Seat{Who: who, Slot: slot} }

func item(node, from int, b api.Box) api.Item { return api.Item{Node: node, From: from, Box: b} }

func rekeyMessage() api.Message {
	return api.Message{Kind: api.KindRekey, Rekey: api.Rekey{
		Epoch:  7,
		Leaves: []api.Seat{seat(3, 1), seat(255, 63)},
		Joins:  []api.Seat{seat(9, 1)},
		Items:  []api.Item{item(5, 21, box(1)), item(1, 5, box(2)), item(0, 1, box(3)), item(0, 84, box(4))},
	}}
}

func requestMessage() api.Message {
	return api.Message{Kind: api.KindRequest, Request: api.Request{Who: 12, Epoch: 5}}
}

func replyMessage() api.Message {
	path := [api.Height]api.Box{box(11), box(12), box(13)}
	return api.Message{Kind: api.KindReply, Reply: api.Reply{Who: 4, Slot: 33, Epoch: 9, Path: path}}
}

func dataMessage() api.Message {
	return api.Message{Kind: api.KindData, Sealed: api.Sealed{Epoch: 6, Under: key(77, 2), Text: "hello"}}
}

// four has a right message of each kind, at the place of its kind less 1.
func four() []api.Message {
	return []api.Message{rekeyMessage(), requestMessage(), replyMessage(), dataMessage()}
}

func bytesOf(t *testing.T, m api.Message) string {
	t.Helper()
	text, e := wire.Encode(m)
	if e != api.OK {
		t.Fatalf("a message of the kind %d that was to be right isn't: %d", m.Kind, e)
	}
	return text
}

// sawFour are packets with the four messages, with their kinds as numbers.
func sawFour(t *testing.T) []api.Packet {
	t.Helper()
	var list []api.Packet
	for _, m := range four() {
		list = append(list, api.Packet{N: m.Kind, From: api.FromServer, Bytes: bytesOf(t, m)})
	}
	return list
}

func takeStep(number int) api.Cook { return api.Cook{Kind: api.CookTake, N: number} }

func blankStep(kind int) api.Cook { return api.Cook{Kind: api.CookBlank, N: kind} }

func step(kind, n, m int) api.Cook { return api.Cook{Kind: kind, N: n, M: m} }

func boxStep(kind, n, m int, b api.Box) api.Cook { return api.Cook{Kind: kind, N: n, M: m, Box: b} }

func textStep(text string, under api.Key) api.Cook {
	return api.Cook{Kind: api.CookText, Text: text, Box: api.Box{Under: under}}
}

func recipe(steps ...api.Cook) []api.Cook { return steps }

func wantErr(t *testing.T, seen []api.Packet, steps []api.Cook, want api.Errno) {
	t.Helper()
	if text, e := spy.Cook(seen, steps); text != "" || e != want {
		t.Errorf("%d bytes and the status %d, not just %d", len(text), e, want)
	}
}

func wantMessage(t *testing.T, seen []api.Packet, steps []api.Cook, want api.Message) {
	t.Helper()
	text, e := spy.Cook(seen, steps)
	if e != api.OK {
		t.Errorf("the status %d", e)
		return
	}
	if text != bytesOf(t, want) {
		got, status := wire.Decode(text)
		t.Errorf("another message: of the kind %d, not %d (Decode answers %d)", got.Kind, want.Kind, status)
	}
}

// strange are numbers beyond whatever a message has.
var strange = []int{math.MinInt, math.MinInt + 1, -1 << 32, -1<<32 + 1, -256, -2, 1 << 20, 1 << 31, 1 << 32, 1<<32 + 1, 1<<32 + 2, 1 << 62, math.MaxInt - 1, math.MaxInt}

// P21.2: the chapter's examples 1 and 2.
func TestCookExamples(t *testing.T) {
	asked := api.Message{Kind: api.KindRequest, Request: api.Request{Who: 7, Epoch: 3}}
	wantMessage(t, nil, recipe(blankStep(2), step(api.CookWho, 7, 3)), asked)
	wantErr(t, nil, recipe(step(api.CookWho, 7, 3)), api.ErrKind)
	wantErr(t, nil, nil, api.ErrKind)

	m := rekeyMessage()
	m.Rekey.Epoch = 1
	seen := []api.Packet{{N: 4, From: api.FromServer, Bytes: bytesOf(t, m)}}
	later := m
	later.Rekey.Epoch = 2
	wantMessage(t, seen, recipe(takeStep(4), step(api.CookEpoch, 2, 0)), later)
	wantErr(t, seen, recipe(takeStep(5)), api.ErrPacket)
	wantErr(t, seen, recipe(takeStep(4), step(api.CookDrop, 99, 0)), api.ErrItem)
	wantErr(t, seen, recipe(takeStep(4), step(api.CookEpoch, 0, 0)), api.ErrWire)
}

// P21.1: the chapter's example 3.
func TestAllowedExamples(t *testing.T) {
	k := know.New()
	one := api.Rekey{Epoch: 3, Items: []api.Item{item(0, 1, boxOf(key(5, 0), key(6, 0)))}}
	if spy.Allowed(k, bytesOf(t, api.Message{Kind: api.KindRekey, Rekey: one})) {
		t.Error("a box under a key that it hasn't")
	}
	one.Items = []api.Item{
		item(0, 1, boxOf(own, key(api.OwnBase+1, 4))),
		item(5, 21, boxOf(key(api.MaxBase, api.MaxStep), own)),
	}
	if !spy.Allowed(k, bytesOf(t, api.Message{Kind: api.KindRekey, Rekey: one})) {
		t.Error("boxes of its own names")
	}
	if !spy.Allowed(k, "garbage") {
		t.Error("no message's bytes")
	}
}

// A pot is a message told another way: flat, and with lists that are made anew by each step.
type pot struct {
	kind, epoch, who, slot int
	leaves, joins          []api.Seat
	items                  []api.Item
	path                   []api.Box
	under                  api.Key
	text                   string
}

func fill(m api.Message) pot {
	r, p, s := m.Rekey, m.Reply, m.Sealed
	made := pot{kind: m.Kind, leaves: r.Leaves, joins: r.Joins, items: r.Items, under: s.Under, text: s.Text}
	// The parts of the other kinds are zero.
	made.epoch = r.Epoch + m.Request.Epoch + p.Epoch + s.Epoch
	made.who, made.slot = m.Request.Who+p.Who, p.Slot
	if m.Kind == api.KindReply {
		made.path = p.Path[:]
	}
	return made
}

func (p pot) pour() api.Message {
	m := api.Message{Kind: p.kind}
	switch p.kind {
	case 1:
		m.Rekey = api.Rekey{Epoch: p.epoch, Leaves: p.leaves, Joins: p.joins, Items: p.items}
	case 2:
		m.Request = api.Request{Who: p.who, Epoch: p.epoch}
	case 3:
		m.Reply = api.Reply{Who: p.who, Slot: p.slot, Epoch: p.epoch, Path: [api.Height]api.Box(p.path)}
	case 4:
		m.Sealed = api.Sealed{Epoch: p.epoch, Under: p.under, Text: p.text}
	}
	return m
}

// changed is the list with one place made another.
func changed[T any](list []T, place int, to T) []T {
	out := make([]T, 0, len(list))
	for i, one := range list {
		if i == place {
			one = to
		}
		out = append(out, one)
	}
	return out
}

func without[T any](list []T, place int) []T {
	var out []T
	for i, one := range list {
		if i != place {
			out = append(out, one)
		}
	}
	return out
}

func behind[T any](list []T, last T) []T { return append(append([]T(nil), list...), last) }

// takers says which kinds of message a kind of step takes: the chapter's column 'refused'.
func takers(kind int) []int {
	switch kind {
	case 3:
		return []int{1, 2, 3, 4}
	case 4:
		return []int{2, 3}
	case 5, 6, 7, 9, 10:
		return []int{1}
	case 8:
		return []int{1, 3}
	case 11:
		return []int{4}
	}
	return nil
}

func noKind(n int) bool { return n < 1 || n > 4 }

// model is one step of the chapter's table.
func model(seen []api.Packet, p pot, c api.Cook) (pot, api.Errno) {
	switch c.Kind {
	case 1:
		at := slices.IndexFunc(seen, func(one api.Packet) bool { return one.N == c.N })
		if at < 0 {
			return pot{}, api.ErrPacket
		}
		m, e := wire.Decode(seen[at].Bytes)
		return fill(m), e
	case 2:
		if noKind(c.N) {
			return pot{}, api.ErrKind
		}
		made := pot{kind: c.N, epoch: 1}
		if c.N == 3 {
			made.path = []api.Box{blankBox, blankBox, blankBox}
		}
		if c.N == 4 {
			made.under = own
		}
		return made, api.OK
	}
	if !slices.Contains(takers(c.Kind), p.kind) {
		return pot{}, api.ErrKind
	}
	return modelChange(p, c)
}

func modelChange(p pot, c api.Cook) (pot, api.Errno) {
	places := len(p.items)
	if p.kind == 3 {
		places = 3
	}
	in := c.N >= 0 && c.N < places
	switch c.Kind {
	case 3:
		p.epoch = c.N
	case 4:
		p.who = c.N
		if p.kind == 2 {
			p.epoch = c.M
		} else {
			p.slot = c.M
		}
	case 5:
		if !in {
			return pot{}, api.ErrItem
		}
		p.items = without(p.items, c.N)
	case 6:
		if !in || c.M < 0 || c.M >= places {
			return pot{}, api.ErrItem
		}
		one, two := p.items[c.N], p.items[c.M]
		p.items = changed(changed(p.items, c.N, two), c.M, one)
	case 7:
		p.items = behind(p.items, item(c.N, c.M, c.Box))
	case 8:
		if !in {
			return pot{}, api.ErrItem
		}
		if p.kind == 3 {
			p.path = changed(p.path, c.N, c.Box)
		} else {
			p.items = changed(p.items, c.N, item(p.items[c.N].Node, p.items[c.N].From, c.Box))
		}
	case 9:
		p.leaves = behind(p.leaves, seat(c.N, c.M))
	case 10:
		p.joins = behind(p.joins, seat(c.N, c.M))
	case 11:
		p.text, p.under = c.Text, c.Box.Under
	}
	return p, api.OK
}

// modelCook is the chapter's Cook; and the place of the step that is refused, or how many there are.
func modelCook(seen []api.Packet, steps []api.Cook) (string, api.Errno, int) {
	var p pot
	for i, c := range steps {
		var e api.Errno
		if p, e = model(seen, p, c); e != api.OK {
			return "", e, i
		}
	}
	if p.kind == 0 {
		return "", api.ErrKind, len(steps)
	}
	text, e := wire.Encode(p.pour())
	return text, e, len(steps)
}

// P21.2: what each kind of step makes of a message of each of the four kinds, and which refusal it has ahead of any message and on each of them.
func TestStepsOnEachKind(t *testing.T) {
	seen := sawFour(t)
	b := box(50)
	steps := []api.Cook{
		{Kind: api.CookEpoch, N: 11}, {Kind: api.CookWho, N: 8, M: 13}, {Kind: api.CookDrop, N: 1},
		{Kind: api.CookSwap, N: 0, M: 2}, {Kind: api.CookItem, N: 2, M: 9, Box: b}, {Kind: api.CookBox, N: 1, Box: b},
		{Kind: api.CookLeave, N: 40, M: 41}, {Kind: api.CookJoin, N: 42, M: 43}, textStep("other", key(9, 9)),
	}
	// By the step's kind: what it makes of each message, as the table says it.
	want := map[int]func(m *api.Message) bool{
		api.CookEpoch: func(m *api.Message) bool {
			switch m.Kind {
			case api.KindRekey:
				m.Rekey.Epoch = 11
			case api.KindRequest:
				m.Request.Epoch = 11
			case api.KindReply:
				m.Reply.Epoch = 11
			case api.KindData:
				m.Sealed.Epoch = 11
			}
			return true
		},
		api.CookWho: func(m *api.Message) bool {
			switch m.Kind {
			case api.KindRequest:
				m.Request = api.Request{Who: 8, Epoch: 13}
			case api.KindReply:
				m.Reply.Who, m.Reply.Slot = 8, 13
			default:
				return false
			}
			return true
		},
		api.CookDrop: func(m *api.Message) bool {
			m.Rekey.Items = []api.Item{item(5, 21, box(1)), item(0, 1, box(3)), item(0, 84, box(4))}
			return m.Kind == api.KindRekey
		},
		api.CookSwap: func(m *api.Message) bool {
			m.Rekey.Items = []api.Item{item(0, 1, box(3)), item(1, 5, box(2)), item(5, 21, box(1)), item(0, 84, box(4))}
			return m.Kind == api.KindRekey
		},
		api.CookItem: func(m *api.Message) bool {
			m.Rekey.Items = append(m.Rekey.Items, item(2, 9, b))
			return m.Kind == api.KindRekey
		},
		api.CookBox: func(m *api.Message) bool {
			switch m.Kind {
			case api.KindRekey:
				m.Rekey.Items[1] = item(1, 5, b)
			case api.KindReply:
				m.Reply.Path[1] = b
			default:
				return false
			}
			return true
		},
		api.CookLeave: func(m *api.Message) bool {
			m.Rekey.Leaves = []api.Seat{seat(3, 1), seat(255, 63), seat(40, 41)}
			return m.Kind == api.KindRekey
		},
		api.CookJoin: func(m *api.Message) bool {
			m.Rekey.Joins = []api.Seat{seat(9, 1), seat(42, 43)}
			return m.Kind == api.KindRekey
		},
		api.CookText: func(m *api.Message) bool {
			m.Sealed = api.Sealed{Epoch: m.Sealed.Epoch, Under: key(9, 9), Text: "other"}
			return m.Kind == api.KindData
		},
	}
	for _, c := range steps {
		wantErr(t, seen, recipe(c), api.ErrKind)
		for _, m := range four() {
			first := takeStep(m.Kind)
			if !want[c.Kind](&m) {
				wantErr(t, seen, recipe(first, c), api.ErrKind)
				continue
			}
			wantMessage(t, seen, recipe(first, c), m)
		}
	}
}

// P21.2: a step that a kind of message doesn't take is ErrKind even where it would be ErrItem else, and right or wrong numbers in it change nothing of that.
func TestRefusedByKindFirst(t *testing.T) {
	seen := sawFour(t)
	numbers := append([]int{-1, 0, 1, 2, 3, 4, 5, 99}, strange...)
	for kind := api.CookEpoch; kind <= api.CookText; kind++ {
		for _, n := range numbers {
			c := api.Cook{Kind: kind, N: n, M: n, Box: box(1), Text: "a"}
			wantErr(t, seen, recipe(c), api.ErrKind)
			for m := api.KindRekey; m <= api.KindData; m++ {
				if !slices.Contains(takers(kind), m) {
					wantErr(t, seen, recipe(takeStep(m), c), api.ErrKind)
					wantErr(t, seen, recipe(blankStep(m), c), api.ErrKind)
				}
			}
		}
	}
}

// P21.2: steps of no kind of the table are ErrKind, ahead of any message and on each of them.
func TestStepsOfNoKind(t *testing.T) {
	seen := sawFour(t)
	for _, kind := range append([]int{-1, 0, 12, 13, 256 + api.CookTake, 1<<32 + api.CookBlank, 1<<32 + api.CookEpoch}, strange...) {
		c := api.Cook{Kind: kind, N: 1, M: 1, Box: box(1), Text: "a"}
		wantErr(t, seen, recipe(c), api.ErrKind)
		wantErr(t, seen, recipe(c, takeStep(1)), api.ErrKind)
		for m := api.KindRekey; m <= api.KindData; m++ {
			wantErr(t, seen, recipe(takeStep(m), c), api.ErrKind)
			wantErr(t, seen, recipe(blankStep(m), c, takeStep(m)), api.ErrKind)
		}
	}
}

// P21.2: the fields that a step doesn't use have no meaning.
func TestUnusedFields(t *testing.T) {
	seen := sawFour(t)
	bad := boxOf(key(-1, 999), key(0, -3))
	long := strings.Repeat("x", 300)
	for _, c := range []struct {
		steps []api.Cook
		noisy api.Cook
		want  func(m *api.Message)
		of    int
	}{
		{nil, api.Cook{Kind: api.CookTake, N: 1, M: -9, Box: bad, Text: long}, func(m *api.Message) {}, 1},
		{nil, api.Cook{Kind: api.CookTake, N: 4, M: 1, Box: bad, Text: long}, func(m *api.Message) {}, 4},
		{recipe(takeStep(2)), api.Cook{Kind: api.CookEpoch, N: 3, M: -9, Box: bad, Text: long}, func(m *api.Message) { m.Request.Epoch = 3 }, 2},
		{recipe(takeStep(4)), api.Cook{Kind: api.CookEpoch, N: 3, M: -9, Box: bad, Text: long}, func(m *api.Message) { m.Sealed.Epoch = 3 }, 4},
		{recipe(takeStep(3)), api.Cook{Kind: api.CookWho, N: 3, M: 2, Box: bad, Text: long}, func(m *api.Message) { m.Reply.Who, m.Reply.Slot = 3, 2 }, 3},
		{recipe(takeStep(1)), api.Cook{Kind: api.CookDrop, N: 3, M: -9, Box: bad, Text: long}, func(m *api.Message) { m.Rekey.Items = m.Rekey.Items[:3] }, 1},
		{recipe(takeStep(1)), api.Cook{Kind: api.CookSwap, N: 3, M: 3, Box: bad, Text: long}, func(m *api.Message) {}, 1},
		{recipe(takeStep(1)), api.Cook{Kind: api.CookItem, N: 0, M: 4, Box: box(9), Text: long}, func(m *api.Message) { m.Rekey.Items = append(m.Rekey.Items, item(0, 4, box(9))) }, 1},
		{recipe(takeStep(1)), api.Cook{Kind: api.CookBox, N: 0, M: -7, Box: box(9), Text: long}, func(m *api.Message) { m.Rekey.Items[0].Box = box(9) }, 1},
		{recipe(takeStep(3)), api.Cook{Kind: api.CookBox, N: 0, M: -7, Box: box(9), Text: long}, func(m *api.Message) { m.Reply.Path[0] = box(9) }, 3},
		{recipe(takeStep(1)), api.Cook{Kind: api.CookLeave, N: 0, M: 63, Box: bad, Text: long}, func(m *api.Message) { m.Rekey.Leaves = append(m.Rekey.Leaves, seat(0, 63)) }, 1},
		{recipe(takeStep(1)), api.Cook{Kind: api.CookJoin, N: 0, M: 63, Box: bad, Text: long}, func(m *api.Message) { m.Rekey.Joins = append(m.Rekey.Joins, seat(0, 63)) }, 1},
		{recipe(takeStep(4)), api.Cook{Kind: api.CookText, N: -9, M: -9, Box: boxOf(key(8, 8), key(-1, -1)), Text: "b"}, func(m *api.Message) { m.Sealed.Under, m.Sealed.Text = key(8, 8), "b" }, 4},
	} {
		m := four()[c.of-1]
		c.want(&m)
		wantMessage(t, seen, append(c.steps, c.noisy), m)
	}
	for kind := api.KindRekey; kind <= api.KindData; kind++ {
		plain, _ := spy.Cook(nil, recipe(blankStep(kind)))
		noisy, e := spy.Cook(seen, recipe(api.Cook{Kind: api.CookBlank, N: kind, M: 3, Box: bad, Text: long}))
		if e != api.OK || noisy != plain {
			t.Errorf("a blank message of the kind %d isn't the same, status %d", kind, e)
		}
	}
}

// P21.2, R1: packets are found by their numbers, whatever these are, and the first with a number counts, even if it is the one that can't be taken.
func TestTake(t *testing.T) {
	good := func(epoch int) string {
		return bytesOf(t, api.Message{Kind: api.KindRequest, Request: api.Request{Who: 1, Epoch: epoch}})
	}
	whole := good(1)
	seen := []api.Packet{
		{N: 9, From: api.FromSpy, Bytes: good(90)},
		{N: 3, From: -77, Bytes: good(30)},
		{N: 0, From: 1, Bytes: good(10)},
		{N: 5, From: 1, Bytes: "garbage"},
		{N: 3, From: 1, Bytes: good(31)},
		{N: 5, From: 1, Bytes: good(50)},
		{N: 7, From: 1, Bytes: good(70)},
		{N: 7, From: 1, Bytes: "garbage"},
		{N: -4, From: 1, Bytes: good(40)},
		{N: 11, From: 1, Bytes: ""},
		{N: 12, From: 1, Bytes: whole[:len(whole)-1]},
		{N: 13, From: 1, Bytes: whole + "\x00"},
		{N: math.MaxInt, From: math.MinInt, Bytes: good(100)},
		{N: math.MinInt, From: math.MaxInt, Bytes: good(101)},
	}
	for number, epoch := range map[int]int{9: 90, 3: 30, 0: 10, 7: 70, -4: 40, math.MaxInt: 100, math.MinInt: 101} {
		want := api.Message{Kind: api.KindRequest, Request: api.Request{Who: 1, Epoch: epoch}}
		wantMessage(t, seen, recipe(takeStep(number)), want)
	}
	for _, number := range []int{5, 11, 12, 13} {
		wantErr(t, seen, recipe(takeStep(number)), api.ErrWire)
		wantErr(t, seen, recipe(takeStep(9), takeStep(number)), api.ErrWire)
		wantErr(t, seen, recipe(takeStep(number), takeStep(9)), api.ErrWire)
	}
	for _, number := range []int{1, 2, 4, 6, 8, 10, 14, -1, -3, -9, 1<<32 + 9, 1<<32 + 3, -1 << 32, 1 << 32, math.MaxInt - 1, math.MinInt + 1} {
		wantErr(t, seen, recipe(takeStep(number)), api.ErrPacket)
		wantErr(t, seen, recipe(takeStep(9), takeStep(number)), api.ErrPacket)
	}
	wantErr(t, nil, recipe(takeStep(0)), api.ErrPacket)
	wantErr(t, []api.Packet{}, recipe(takeStep(1)), api.ErrPacket)
}

// P21.2: each blank message is as the table says it; kinds other than 1 to 4 have none.
func TestBlank(t *testing.T) {
	path := [api.Height]api.Box{blankBox, blankBox, blankBox}
	for kind, want := range map[int]api.Message{
		1: {Kind: 1, Rekey: api.Rekey{Epoch: 1}},
		2: {Kind: 2, Request: api.Request{Who: 0, Epoch: 1}},
		3: {Kind: 3, Reply: api.Reply{Who: 0, Slot: 0, Epoch: 1, Path: path}},
		4: {Kind: 4, Sealed: api.Sealed{Epoch: 1, Under: own, Text: ""}},
	} {
		wantMessage(t, nil, recipe(blankStep(kind)), want)
		text, _ := spy.Cook(nil, recipe(blankStep(kind)))
		got, e := wire.Decode(text)
		// A list that is nil and one that is empty are the same: lists are held by their lengths.
		if n := len(got.Rekey.Leaves) + len(got.Rekey.Joins) + len(got.Rekey.Items); e != api.OK || n != 0 {
			t.Errorf("a blank message of the kind %d: status %d, %d in its lists", kind, e, n)
		}
		got.Rekey.Leaves, got.Rekey.Joins, got.Rekey.Items = nil, nil, nil
		if !reflect.DeepEqual(got, want) {
			t.Errorf("a blank message of the kind %d is another one", kind)
		}
	}
	for _, kind := range append([]int{-1, 0, 5, 6, 1<<32 + 4, 256 + 1}, strange...) {
		wantErr(t, nil, recipe(blankStep(kind)), api.ErrKind)
		wantErr(t, nil, recipe(blankStep(1), blankStep(kind)), api.ErrKind)
		wantErr(t, nil, recipe(blankStep(kind), blankStep(1)), api.ErrKind)
	}
}

// P21.2: a message that is taken or blank is the message from now on: nothing of the one before is left in it.
func TestMessageFromNowOn(t *testing.T) {
	seen := sawFour(t)
	full := map[int][]api.Cook{
		1: recipe(step(api.CookEpoch, 50, 0), boxStep(api.CookItem, 0, 3, box(7)), step(api.CookLeave, 5, 5), step(api.CookJoin, 6, 6)),
		2: recipe(step(api.CookWho, 100, 150)),
		3: recipe(step(api.CookWho, 100, 20), step(api.CookEpoch, 150, 0), boxStep(api.CookBox, 2, 0, box(8))),
		4: recipe(step(api.CookEpoch, 150, 0), textStep("before", key(5, 5))),
	}
	for before := 1; before <= 4; before++ {
		for after := 1; after <= 4; after++ {
			for _, start := range []api.Cook{takeStep(before), blankStep(before)} {
				steps := append(recipe(start), full[before]...)
				wantMessage(t, seen, append(slices.Clone(steps), takeStep(after)), four()[after-1])
				alone, _ := spy.Cook(nil, recipe(blankStep(after)))
				got, e := spy.Cook(seen, append(slices.Clone(steps), blankStep(after)))
				if e != api.OK || got != alone {
					t.Errorf("blank %d behind %d isn't blank, status %d", after, before, e)
				}
			}
		}
	}
	// What was done to a taken message isn't done to the packet: it may be taken once more as it was.
	again := recipe(takeStep(1), step(api.CookSwap, 0, 1), step(api.CookDrop, 0, 0), boxStep(api.CookBox, 0, 0, box(9)), takeStep(1))
	wantMessage(t, seen, again, rekeyMessage())
	again = recipe(takeStep(3), boxStep(api.CookBox, 0, 0, box(9)), takeStep(3))
	wantMessage(t, seen, again, replyMessage())
}

// P21.2: items are dropped, changed and swapped at the first and the last place; one behind the last, ahead of the first and far out there is none.
func TestItemPlaces(t *testing.T) {
	seen := sawFour(t)
	count := len(rekeyMessage().Rekey.Items)
	b := box(60)
	for place := range count {
		m := rekeyMessage()
		m.Rekey.Items = without(m.Rekey.Items, place)
		wantMessage(t, seen, recipe(takeStep(1), step(api.CookDrop, place, 0)), m)
		m = rekeyMessage()
		m.Rekey.Items[place].Box = b
		wantMessage(t, seen, recipe(takeStep(1), boxStep(api.CookBox, place, 0, b)), m)
		for other := range count {
			m = rekeyMessage()
			one, two := m.Rekey.Items[place], m.Rekey.Items[other]
			m.Rekey.Items[place], m.Rekey.Items[other] = two, one
			wantMessage(t, seen, recipe(takeStep(1), step(api.CookSwap, place, other)), m)
		}
	}
	wantMessage(t, seen, recipe(takeStep(1), step(api.CookSwap, 2, 2)), rekeyMessage())
	for _, out := range append([]int{-1, count, count + 1, -count, 99, 1535, 1 << 32}, strange...) {
		wantErr(t, seen, recipe(takeStep(1), step(api.CookDrop, out, 0)), api.ErrItem)
		wantErr(t, seen, recipe(takeStep(1), boxStep(api.CookBox, out, 0, b)), api.ErrItem)
		wantErr(t, seen, recipe(takeStep(1), step(api.CookSwap, out, 0)), api.ErrItem)
		wantErr(t, seen, recipe(takeStep(1), step(api.CookSwap, 0, out)), api.ErrItem)
		wantErr(t, seen, recipe(takeStep(1), step(api.CookSwap, out, out)), api.ErrItem)
	}
	// Of a blank one there is no item yet; one that came may go again, and then there is none once more.
	for _, kind := range []int{api.CookDrop, api.CookSwap, api.CookBox} {
		wantErr(t, nil, recipe(blankStep(1), step(kind, 0, 0)), api.ErrItem)
	}
	came := recipe(blankStep(1), boxStep(api.CookItem, 0, 1, b), step(api.CookDrop, 0, 0))
	wantMessage(t, nil, came, api.Message{Kind: 1, Rekey: api.Rekey{Epoch: 1}})
	wantErr(t, nil, append(came, step(api.CookDrop, 0, 0)), api.ErrItem)
	var all []api.Cook
	for range count {
		all = append(all, step(api.CookDrop, 0, 0))
	}
	m := rekeyMessage()
	m.Rekey.Items = nil
	wantMessage(t, seen, append(recipe(takeStep(1)), all...), m)
}

// P21.2: a reply's boxes have the places 0 to 2, and no others.
func TestReplyPlaces(t *testing.T) {
	seen := sawFour(t)
	b := box(60)
	for place := range api.Height {
		m := replyMessage()
		m.Reply.Path[place] = b
		wantMessage(t, seen, recipe(takeStep(3), boxStep(api.CookBox, place, 0, b)), m)
		blank := api.Message{Kind: 3, Reply: api.Reply{Epoch: 1, Path: [api.Height]api.Box{blankBox, blankBox, blankBox}}}
		blank.Reply.Path[place] = b
		wantMessage(t, nil, recipe(blankStep(3), boxStep(api.CookBox, place, 0, b)), blank)
	}
	for _, out := range append([]int{-1, -3, 3, 4, 1 << 32}, strange...) {
		wantErr(t, seen, recipe(takeStep(3), boxStep(api.CookBox, out, 0, b)), api.ErrItem)
		wantErr(t, nil, recipe(blankStep(3), boxStep(api.CookBox, out, 0, b)), api.ErrItem)
	}
}

// P21.2: items, leavers and joiners come behind the last ones, in the order of the steps, and each in its own list; somebody may stand twice.
func TestBehindTheLast(t *testing.T) {
	steps := recipe(blankStep(1),
		step(api.CookLeave, 1, 10), step(api.CookJoin, 2, 20), boxStep(api.CookItem, 0, 1, box(1)),
		step(api.CookJoin, 1, 10), boxStep(api.CookItem, 0, 1, box(1)), step(api.CookLeave, 0, 0),
		boxStep(api.CookItem, 20, 84, box(2)), step(api.CookLeave, 1, 10), step(api.CookJoin, 255, 63))
	wantMessage(t, nil, steps, api.Message{Kind: 1, Rekey: api.Rekey{
		Epoch:  1,
		Leaves: []api.Seat{seat(1, 10), seat(0, 0), seat(1, 10)},
		Joins:  []api.Seat{seat(2, 20), seat(1, 10), seat(255, 63)},
		Items:  []api.Item{item(0, 1, box(1)), item(0, 1, box(1)), item(20, 84, box(2))},
	}})
}

// P21.2: a message that isn't right is ErrWire, but behind the last step alone: a later step may make it right again.
func TestWrongAndRightAgain(t *testing.T) {
	seen := sawFour(t)
	bad := boxOf(key(0, 0), key(1, 0))
	long := strings.Repeat("t", api.MaxText+1)
	for _, c := range []struct {
		of           int
		wrong, right api.Cook
		want         func(m *api.Message)
	}{
		{1, step(api.CookEpoch, 0, 0), step(api.CookEpoch, 7, 0), func(m *api.Message) {}},
		{1, step(api.CookEpoch, math.MinInt, 0), step(api.CookEpoch, api.MaxEpoch, 0), func(m *api.Message) { m.Rekey.Epoch = api.MaxEpoch }},
		{1, boxStep(api.CookBox, 2, 0, bad), boxStep(api.CookBox, 2, 0, box(3)), func(m *api.Message) {}},
		{1, boxStep(api.CookItem, 5, 25, box(1)), step(api.CookDrop, 4, 0), func(m *api.Message) {}},
		{1, boxStep(api.CookItem, 5, 5, box(1)), step(api.CookDrop, 4, 0), func(m *api.Message) {}},
		{1, boxStep(api.CookItem, 21, 22, box(1)), step(api.CookDrop, 4, 0), func(m *api.Message) {}},
		{1, boxStep(api.CookItem, 0, 85, box(1)), step(api.CookDrop, 4, 0), func(m *api.Message) {}},
		{1, boxStep(api.CookItem, -1, math.MaxInt, box(1)), step(api.CookDrop, 4, 0), func(m *api.Message) {}},
		{1, boxStep(api.CookItem, 0, 1, bad), boxStep(api.CookBox, 4, 0, box(5)), func(m *api.Message) { m.Rekey.Items = append(m.Rekey.Items, item(0, 1, box(5))) }},
		{1, step(api.CookLeave, 256, 0), takeStep(1), func(m *api.Message) {}},
		{1, step(api.CookJoin, 0, 64), takeStep(1), func(m *api.Message) {}},
		{1, step(api.CookLeave, -1, 0), takeStep(1), func(m *api.Message) {}},
		{1, step(api.CookJoin, 0, math.MinInt), takeStep(1), func(m *api.Message) {}},
		{2, step(api.CookWho, 256, 5), step(api.CookWho, 255, 5), func(m *api.Message) { m.Request.Who = 255 }},
		{2, step(api.CookWho, -1, 5), step(api.CookWho, 0, 200), func(m *api.Message) { m.Request = api.Request{Who: 0, Epoch: 200} }},
		{2, step(api.CookWho, 12, 201), step(api.CookEpoch, 200, 0), func(m *api.Message) { m.Request.Epoch = 200 }},
		{2, step(api.CookWho, 12, 0), step(api.CookEpoch, 1, 0), func(m *api.Message) { m.Request.Epoch = 1 }},
		{2, step(api.CookEpoch, 201, 0), step(api.CookWho, 3, 4), func(m *api.Message) { m.Request = api.Request{Who: 3, Epoch: 4} }},
		{3, step(api.CookWho, 4, 64), step(api.CookWho, 4, 63), func(m *api.Message) { m.Reply.Slot = 63 }},
		{3, step(api.CookWho, 4, -1), step(api.CookWho, 4, 0), func(m *api.Message) { m.Reply.Slot = 0 }},
		{3, step(api.CookWho, 1<<32+4, 33), step(api.CookWho, 0, 33), func(m *api.Message) { m.Reply.Who = 0 }},
		{3, step(api.CookEpoch, -9, 0), step(api.CookEpoch, 9, 0), func(m *api.Message) {}},
		{3, boxStep(api.CookBox, 0, 0, bad), boxStep(api.CookBox, 0, 0, box(11)), func(m *api.Message) {}},
		{3, boxStep(api.CookBox, 2, 0, api.Box{}), boxStep(api.CookBox, 2, 0, box(2)), func(m *api.Message) { m.Reply.Path[2] = box(2) }},
		{4, step(api.CookEpoch, 201, 0), step(api.CookEpoch, 6, 0), func(m *api.Message) {}},
		{4, textStep(long, key(1, 1)), textStep(long[:api.MaxText], key(1, 1)), func(m *api.Message) { m.Sealed.Under, m.Sealed.Text = key(1, 1), long[:api.MaxText] }},
		{4, textStep("a", key(0, 0)), textStep("", key(api.MaxBase, api.MaxStep)), func(m *api.Message) { m.Sealed.Under, m.Sealed.Text = key(api.MaxBase, api.MaxStep), "" }},
		{4, textStep("a", key(1, 256)), textStep("a\x00\xff", key(1, 255)), func(m *api.Message) { m.Sealed.Under, m.Sealed.Text = key(1, 255), "a\x00\xff" }},
	} {
		m := four()[c.of-1]
		c.want(&m)
		wantErr(t, seen, recipe(takeStep(c.of), c.wrong), api.ErrWire)
		wantMessage(t, seen, recipe(takeStep(c.of), c.wrong, c.right), m)
		// A wrong message may be given up for another one.
		wantMessage(t, seen, recipe(takeStep(c.of), c.wrong, takeStep(2)), requestMessage())
	}
}

// P21.2: lists at the bounds of chapter 14, and one behind them.
func TestLongLists(t *testing.T) {
	var seats []api.Seat
	leaves, joins := recipe(blankStep(1)), recipe(blankStep(1))
	for i := range api.MaxMembers {
		seats = append(seats, seat(255-i, i))
		leaves = append(leaves, step(api.CookLeave, 255-i, i))
		joins = append(joins, step(api.CookJoin, 255-i, i))
	}
	wantMessage(t, nil, leaves, api.Message{Kind: 1, Rekey: api.Rekey{Epoch: 1, Leaves: seats}})
	wantMessage(t, nil, joins, api.Message{Kind: 1, Rekey: api.Rekey{Epoch: 1, Joins: seats}})
	wantErr(t, nil, append(leaves, step(api.CookLeave, 0, 0)), api.ErrWire)
	wantErr(t, nil, append(joins, step(api.CookJoin, 0, 0)), api.ErrWire)

	var items []api.Item
	steps := recipe(blankStep(1))
	for i := range 1536 {
		items = append(items, item(0, 1+i%84, box(i)))
		steps = append(steps, boxStep(api.CookItem, 0, 1+i%84, box(i)))
	}
	wantMessage(t, nil, steps, api.Message{Kind: 1, Rekey: api.Rekey{Epoch: 1, Items: items}})
	steps = append(steps, boxStep(api.CookItem, 5, 21, box(2000)))
	wantErr(t, nil, steps, api.ErrWire)
	steps = append(steps, step(api.CookSwap, 0, 1536), step(api.CookDrop, 1536, 0))
	items[0] = item(5, 21, box(2000))
	wantMessage(t, nil, steps, api.Message{Kind: 1, Rekey: api.Rekey{Epoch: 1, Items: items}})
}

// P21.2, R4: of no steps there is no message.
func TestNoSteps(t *testing.T) {
	for _, seen := range [][]api.Packet{nil, {}, sawFour(t)} {
		wantErr(t, seen, nil, api.ErrKind)
		wantErr(t, seen, []api.Cook{}, api.ErrKind)
	}
}

// P21.2, R2: the first refused step is the answer, whatever else is wrong behind it or in the message by then.
func TestFirstRefused(t *testing.T) {
	seen := append(sawFour(t), api.Packet{N: 6, Bytes: "garbage"})
	refused := []struct {
		c api.Cook
		e api.Errno
	}{
		{takeStep(99), api.ErrPacket}, {takeStep(6), api.ErrWire}, {blankStep(5), api.ErrKind}, {step(12, 0, 0), api.ErrKind},
		{step(api.CookDrop, 99, 0), api.ErrItem}, {step(api.CookSwap, 0, -1), api.ErrItem}, {step(api.CookWho, 1, 1), api.ErrKind},
	}
	for _, first := range refused {
		for _, second := range refused {
			wantErr(t, seen, recipe(takeStep(1), first.c, second.c), first.e)
			wantErr(t, seen, recipe(takeStep(1), step(api.CookEpoch, 0, 0), first.c, second.c), first.e)
			wantErr(t, seen, recipe(takeStep(1), first.c, takeStep(2)), first.e)
			wantErr(t, seen, recipe(takeStep(1), first.c, blankStep(2), second.c), first.e)
		}
	}
}

// P21.2: what is said of a recipe of several steps, step by step.
func TestSeveralSteps(t *testing.T) {
	seen := sawFour(t)
	steps := recipe(takeStep(1),
		step(api.CookSwap, 3, 0),                // 84, 1<-5, 0<-1, 5<-21
		boxStep(api.CookItem, 2, 9, box(20)),    // and 2<-9 at the place 4
		step(api.CookDrop, 1, 0),                // 84, 0<-1, 5<-21, 2<-9
		boxStep(api.CookBox, 3, 0, blankBox),    // 2<-9 with another box
		step(api.CookSwap, 0, 3),                // 2<-9, 0<-1, 5<-21, 84
		step(api.CookLeave, 17, 18),             //
		step(api.CookJoin, 19, 20),              //
		step(api.CookEpoch, 200, 0),             //
		step(api.CookEpoch, 199, 0),             // the last epoch counts
		boxStep(api.CookBox, 1, 0, box(21)),     //
		boxStep(api.CookBox, 1, 0, box(22)),     // and the last box
		boxStep(api.CookItem, 20, 84, blankBox)) // one more, at the place 4
	wantMessage(t, seen, steps, api.Message{Kind: 1, Rekey: api.Rekey{
		Epoch:  199,
		Leaves: []api.Seat{seat(3, 1), seat(255, 63), seat(17, 18)},
		Joins:  []api.Seat{seat(9, 1), seat(19, 20)},
		Items: []api.Item{
			item(2, 9, blankBox), item(0, 1, box(22)), item(5, 21, box(1)), item(0, 84, box(4)), item(20, 84, blankBox),
		},
	}})
}

// numberFor is a number as a step of the kind may have it, mostly one that is taken.
func numberFor(rng *rand.Rand, kind int) int {
	if rng.Intn(60) == 0 {
		return strange[rng.Intn(len(strange))]
	}
	switch kind {
	case api.CookTake:
		return rng.Intn(8)
	case api.CookBlank:
		return 1 + rng.Intn(4) + rng.Intn(15)/14
	case api.CookDrop, api.CookSwap:
		return rng.Intn(4) - rng.Intn(12)/11
	case api.CookBox:
		return rng.Intn(3) + rng.Intn(12)/11
	case api.CookItem:
		return rng.Intn(6)
	}
	return 1 + rng.Intn(66)
}

// kindFor is mostly a kind of step that a message of the kind takes.
func kindFor(rng *rand.Rand, of int) int {
	if of == 0 || rng.Intn(20) == 0 {
		return 1 + rng.Intn(2)
	}
	if rng.Intn(40) == 0 {
		return rng.Intn(14) - 1
	}
	for {
		kind := 3 + rng.Intn(9)
		if slices.Contains(takers(kind), of) {
			return kind
		}
	}
}

func drawKey(rng *rand.Rand) api.Key {
	base := 1 + rng.Intn(12)
	if rng.Intn(3) == 0 {
		base = api.OwnBase + rng.Intn(4)
	}
	if rng.Intn(200) == 0 {
		base = 0
	}
	return key(base, rng.Intn(4))
}

func drawStep(rng *rand.Rand, of int) api.Cook {
	kind := kindFor(rng, of)
	other := numberFor(rng, kind)
	if kind == api.CookItem {
		other = 21 + rng.Intn(20)
	}
	return api.Cook{
		Kind: kind, N: numberFor(rng, kind), M: other,
		Box:  boxOf(drawKey(rng), drawKey(rng)),
		Text: strings.Repeat("y", rng.Intn(api.MaxText+2)),
	}
}

// drawRecipe draws steps; it looks at the model's pot, so that many of them are taken.
func drawRecipe(rng *rand.Rand, seen []api.Packet) []api.Cook {
	var p pot
	var steps []api.Cook
	for range rng.Intn(12) {
		c := drawStep(rng, p.kind)
		steps = append(steps, c)
		q, e := model(seen, p, c)
		if e != api.OK && rng.Intn(3) > 0 {
			steps = steps[:len(steps)-1]
			continue
		}
		p = q
	}
	return steps
}

// P21.2: drawn recipes answer what the table, told another way, answers; what is OK are a right message's bytes.
func TestDrawnRecipes(t *testing.T) {
	rng := rand.New(rand.NewSource(21))
	seen := append(sawFour(t), api.Packet{N: 2, Bytes: "garbage"}, api.Packet{N: 6, Bytes: "garbage"}, api.Packet{N: 7, Bytes: bytesOf(t, replyMessage())})
	statuses := make(map[api.Errno]int)
	done := make(map[[2]int]int)
	for range 30000 {
		steps := drawRecipe(rng, seen)
		want, status, until := modelCook(seen, steps)
		text, e := spy.Cook(seen, steps)
		if text != want || e != status {
			t.Fatalf("%d steps, refused at %d: status %d, not %d; %d bytes, not %d", len(steps), until, e, status, len(text), len(want))
		}
		statuses[e]++
		if e != api.OK {
			continue
		}
		m, again := wire.Decode(text)
		if back, _ := wire.Encode(m); again != api.OK || back != text {
			t.Fatalf("what is answered is no right message's: %d", again)
		}
		for _, c := range steps {
			done[[2]int{c.Kind, m.Kind}]++
		}
	}
	for _, e := range []api.Errno{api.OK, api.ErrPacket, api.ErrWire, api.ErrKind, api.ErrItem} {
		if statuses[e] < 100 {
			t.Errorf("the status %d came %d times", e, statuses[e])
		}
	}
	for kind := api.CookEpoch; kind <= api.CookText; kind++ {
		for _, of := range takers(kind) {
			if done[[2]int{kind, of}] < 50 {
				t.Errorf("steps of the kind %d stood %d times in recipes of messages of the kind %d", kind, done[[2]int{kind, of}], of)
			}
		}
	}
}

// P21.2, R6: a recipe answers the same each time, whatever was cooked in between.
func TestCookKeepsNothing(t *testing.T) {
	rng := rand.New(rand.NewSource(5))
	seen := sawFour(t)
	var recipes [][]api.Cook
	var texts []string
	var statuses []api.Errno
	for range 300 {
		steps := drawRecipe(rng, seen)
		text, e := spy.Cook(seen, steps)
		recipes, texts, statuses = append(recipes, steps), append(texts, text), append(statuses, e)
	}
	for range 1000 {
		i := rng.Intn(len(recipes))
		if text, e := spy.Cook(seen, recipes[i]); text != texts[i] || e != statuses[i] {
			t.Fatalf("another answer: status %d, not %d", e, statuses[i])
		}
		if _, e := spy.Cook(seen, nil); e != api.ErrKind {
			t.Fatalf("no steps, and the status %d", e)
		}
	}
}

// R5: the packets, the recipe, and what lies behind the ends of both lists stay as they were, whether the recipe is refused or not.
func TestHandedInStays(t *testing.T) {
	rng := rand.New(rand.NewSource(6))
	room := append(sawFour(t), api.Packet{N: 50, From: 50, Bytes: "behind"}, api.Packet{N: 51, From: 51, Bytes: bytesOf(t, requestMessage())})
	seen := room[:4]
	for range 3000 {
		steps := drawRecipe(rng, seen)
		roomy := append(slices.Clone(steps), boxStep(api.CookItem, 0, 1, box(70)), takeStep(3), blankStep(1))
		short := roomy[:len(steps)]
		packets, before := slices.Clone(room), slices.Clone(roomy)
		text, e := spy.Cook(seen, short)
		if want, status, _ := modelCook(packets[:4], steps); text != want || e != status {
			t.Fatalf("what lies behind the ends has a meaning: status %d, not %d", e, status)
		}
		if !slices.Equal(room, packets) {
			t.Fatal("the packets have changed")
		}
		if !slices.Equal(roomy, before) {
			t.Fatal("the recipe has changed")
		}
	}
	wantErr(t, seen, recipe(takeStep(50)), api.ErrPacket)
	wantErr(t, seen, recipe(takeStep(51)), api.ErrPacket)
}

// P1, R1: recipes of any steps whatever end, and none panics.
func TestAnySteps(t *testing.T) {
	rng := rand.New(rand.NewSource(7))
	numbers := append([]int{-1, 0, 1, 2, 3, 4, 5, 63, 64, 84, 85, 200, 255, 256}, strange...)
	draw := func() int { return numbers[rng.Intn(len(numbers))] }
	seen := sawFour(t)
	for range 20 {
		seen = append(seen, api.Packet{N: draw(), From: draw(), Bytes: strings.Repeat("\xc1", rng.Intn(40))})
	}
	good := 0
	for range 20000 {
		var steps []api.Cook
		if rng.Intn(2) == 0 {
			steps = recipe(blankStep(1 + rng.Intn(4)))
		}
		for range rng.Intn(5) {
			kind := rng.Intn(14) - 1
			if rng.Intn(30) == 0 {
				kind = draw()
			}
			b := boxOf(key(draw(), draw()), key(draw(), draw()))
			steps = append(steps, api.Cook{Kind: kind, N: draw(), M: draw(), Box: b, Text: strings.Repeat("z", rng.Intn(90))})
		}
		want, status, _ := modelCook(seen, steps)
		text, e := spy.Cook(seen, steps)
		if text != want || e != status {
			t.Fatalf("%d steps: status %d, not %d", len(steps), e, status)
		}
		if e == api.OK {
			good++
		}
	}
	if good < 500 {
		t.Errorf("%d were cooked", good)
	}
}

// P1: a long recipe over many packets ends soon.
func TestLongRecipe(t *testing.T) {
	var seen []api.Packet
	one := bytesOf(t, rekeyMessage())
	for n := range 2000 {
		seen = append(seen, api.Packet{N: n, Bytes: one})
	}
	var steps []api.Cook
	for n := range 2000 {
		steps = append(steps, takeStep(n))
	}
	for range 20000 {
		steps = append(steps, boxStep(api.CookItem, 0, 1, box(1)))
	}
	for range 20000 {
		steps = append(steps, step(api.CookDrop, 0, 0))
	}
	start := time.Now()
	m := rekeyMessage()
	m.Rekey.Items = nil
	for range 4 {
		m.Rekey.Items = append(m.Rekey.Items, item(0, 1, box(1)))
	}
	wantMessage(t, seen, steps, m)
	if took := time.Since(start); took > 60*time.Second {
		t.Errorf("it took %v", took)
	}
}
