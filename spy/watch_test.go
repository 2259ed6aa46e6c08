package spy_test

import (
	"math/rand"
	"slices"
	"strings"
	"testing"
	"time"

	"coterie/api"
	"coterie/data"
	"coterie/keytree"
	"coterie/know"
	"coterie/plan"
	"coterie/recovery"
	"coterie/shape"
	"coterie/spy"
	"coterie/wire"
)

// A mind is what the adversary has, told another way: plain lists of what came, closed anew for each question.
type mind struct {
	told  []api.Key
	boxes []api.Box
	texts []api.Sealed
}

func gives(a, b api.Key) bool { return a.Base == b.Base && a.Step <= b.Step }

// keys closes what was told under the boxes, by going over all of them till nothing more opens.
func (m mind) keys() []api.Key {
	list := slices.Clone(m.told)
	for grown := true; grown; {
		grown = false
		for _, b := range m.boxes {
			if hasKey(list, b.Under) && !hasKey(list, b.Load) {
				list, grown = append(list, b.Load), true
			}
		}
	}
	return list
}

func hasKey(list []api.Key, k api.Key) bool {
	return k.Base >= api.OwnBase || slices.ContainsFunc(list, func(one api.Key) bool { return gives(one, k) })
}

// least are the list's least keys of the server's names, rising.
func least(list []api.Key) []api.Key {
	var out []api.Key
	for base := range api.OwnBase {
		found := api.Key{Step: api.MaxStep + 1}
		for _, k := range list {
			if k.Base == base && k.Step < found.Step {
				found = k
			}
		}
		if found.Base > 0 {
			out = append(out, found)
		}
	}
	return out
}

func boxesOf(m api.Message) []api.Box {
	var list []api.Box
	for _, one := range m.Rekey.Items {
		list = append(list, one.Box)
	}
	if m.Kind == api.KindReply {
		list = append(list, m.Reply.Path[0], m.Reply.Path[1], m.Reply.Path[2])
	}
	return list
}

func (m *mind) watch(one api.Message) {
	m.boxes = append(m.boxes, boxesOf(one)...)
	if one.Kind == api.KindData {
		m.texts = append(m.texts, one.Sealed)
	}
}

func (m mind) allowed(one api.Message) bool {
	list := m.keys()
	for _, b := range boxesOf(one) {
		if !slices.Contains(m.boxes, b) && !(hasKey(list, b.Under) && hasKey(list, b.Load)) {
			return false
		}
	}
	return one.Kind != api.KindData || slices.Contains(m.texts, one.Sealed) || hasKey(list, one.Sealed.Under)
}

// rekeyWith has these boxes as its items.
func rekeyWith(boxes ...api.Box) api.Message {
	m := api.Message{Kind: api.KindRekey, Rekey: api.Rekey{Epoch: 1}}
	for _, b := range boxes {
		m.Rekey.Items = append(m.Rekey.Items, item(0, 1, b))
	}
	return m
}

func replyWith(one, two, three api.Box) api.Message {
	return api.Message{Kind: api.KindReply, Reply: api.Reply{Epoch: 1, Path: [api.Height]api.Box{one, two, three}}}
}

func dataWith(epoch int, under api.Key, text string) api.Message {
	return api.Message{Kind: api.KindData, Sealed: api.Sealed{Epoch: epoch, Under: under, Text: text}}
}

func watch(t *testing.T, k *know.Know, m api.Message) {
	t.Helper()
	spy.Watch(k, bytesOf(t, m))
}

func wantAllowed(t *testing.T, k *know.Know, m api.Message, want bool) {
	t.Helper()
	if spy.Allowed(k, bytesOf(t, m)) != want {
		t.Errorf("a message of the kind %d is allowed: %v, not %v", m.Kind, !want, want)
	}
}

func wantKeys(t *testing.T, k *know.Know, want ...api.Key) {
	t.Helper()
	if got := k.Keys(); !slices.Equal(got, want) {
		t.Errorf("%d keys are had, not just the %d", len(got), len(want))
	}
}

// same: do the two answer alike, for all that these messages have?
func same(t *testing.T, a, b *know.Know, messages []api.Message) {
	t.Helper()
	if !slices.Equal(a.Keys(), b.Keys()) {
		t.Error("other keys are had")
	}
	for _, m := range messages {
		for _, one := range boxesOf(m) {
			if a.Makes(one) != b.Makes(one) || a.Has(one.Under) != b.Has(one.Under) || a.Has(one.Load) != b.Has(one.Load) {
				t.Errorf("a box of a message of the kind %d is made by one of the two alone", m.Kind)
			}
		}
		if a.MakesSealed(m.Sealed) != b.MakesSealed(m.Sealed) {
			t.Error("a sealed text is made by one of the two alone")
		}
	}
}

// P21.1: of a watched message of each kind all boxes are seen, and the sealed text, and nothing else.
func TestWatchEachKind(t *testing.T) {
	for _, m := range four() {
		k, want := know.New(), know.New()
		watch(t, k, m)
		for _, b := range boxesOf(m) {
			want.See(b)
			if !k.Makes(b) {
				t.Errorf("a box of a message of the kind %d wasn't seen", m.Kind)
			}
		}
		if m.Kind == api.KindData {
			want.SeeSealed(m.Sealed)
			if !k.MakesSealed(m.Sealed) {
				t.Error("the sealed text wasn't seen")
			}
		}
		same(t, k, want, four())
		wantKeys(t, k)
	}
	// A request tells nothing: it is as if it hadn't come.
	k := know.New()
	watch(t, k, requestMessage())
	same(t, k, know.New(), four())
}

// wrongBytes are no message's bytes, though many of them are near to one.
func wrongBytes(t *testing.T) []string {
	list := []string{"", "garbage", "\x00", "\xff", strings.Repeat("\x00", 50), strings.Repeat("\xff", 5000), "\xc3\x28"}
	for _, m := range four() {
		text := bytesOf(t, m)
		list = append(list, text+"\x00", "\x00"+text, text+text)
		for n := range len(text) {
			list = append(list, text[:n])
		}
	}
	// A request with the epoch 0, one with the epoch 201, one with a bit in its filling.
	return append(list, "\x40\x40\x00", "\x40\x72\x40", "\x40\x40\xc1")
}

// P21.1: of bytes that are no message's nothing comes, and they are allowed to everybody.
func TestNoMessage(t *testing.T) {
	k, nothing := know.New(), know.New()
	for _, text := range wrongBytes(t) {
		if _, e := wire.Decode(text); e == api.OK {
			t.Fatalf("%d bytes are a message's", len(text))
		}
		spy.Watch(k, text)
		if !spy.Allowed(k, text) {
			t.Errorf("%d bytes that are no message's aren't allowed", len(text))
		}
	}
	same(t, k, nothing, four())
	// To who has seen and was told much, too.
	for _, m := range four() {
		watch(t, k, m)
		watch(t, nothing, m)
	}
	k.Learn(key(101, 1))
	nothing.Learn(key(101, 1))
	for _, text := range wrongBytes(t) {
		spy.Watch(k, text)
		if !spy.Allowed(k, text) {
			t.Errorf("%d bytes aren't allowed any more", len(text))
		}
	}
	same(t, k, nothing, four())
}

// P21.1: what is in a watched box is had as soon as its Under is, whether it was told ahead or behind, in this message or another one.
func TestWatchAndLearn(t *testing.T) {
	chain := []api.Box{boxOf(key(3, 1), key(4, 2)), boxOf(key(2, 5), key(3, 0)), boxOf(key(1, 0), key(2, 5))}
	messages := [][]api.Message{
		{rekeyWith(chain...)},
		{replyWith(chain[0], chain[1], chain[2])},
		{rekeyWith(chain[0]), rekeyWith(chain[1], chain[2])},
		{rekeyWith(chain[2]), replyWith(chain[1], chain[0], blankBox)},
	}
	for i, list := range messages {
		for at := range len(list) + 1 {
			k := know.New()
			for j := range len(list) + 1 {
				if j == at {
					k.Learn(key(1, 0))
				}
				if j < len(list) {
					watch(t, k, list[j])
				}
			}
			if t.Failed() {
				t.Fatalf("row %d", i)
			}
			wantKeys(t, k, key(1, 0), key(2, 5), key(3, 0), key(4, 2))
		}
		k := know.New()
		for _, m := range list {
			watch(t, k, m)
			watch(t, k, m)
		}
		wantKeys(t, k)
		k.Learn(key(2, 5))
		wantKeys(t, k, key(2, 5), key(3, 0), key(4, 2))
	}
	// Of a sealed text no key comes, though its Under is in it.
	k := know.New()
	watch(t, k, dataWith(1, key(9, 0), "a"))
	wantKeys(t, k)
	wantAllowed(t, k, dataWith(1, key(9, 0), "b"), false)
	// Whatever is sealed under its own names it has at once.
	watch(t, k, rekeyWith(boxOf(own, key(8, 4))))
	wantKeys(t, k, key(8, 4))
}

// P21.1: whether a box is allowed: seen as it is, or made of two keys that are had; one of them isn't enough.
func TestAllowedBoxes(t *testing.T) {
	k := know.New()
	k.Learn(key(1, 3))
	k.Learn(key(2, 0))
	watch(t, k, rekeyWith(boxOf(key(5, 1), key(6, 1))))
	far := key(api.MaxBase, api.MaxStep)
	for _, c := range []struct {
		b    api.Box
		want bool
	}{
		{boxOf(key(1, 3), key(2, 0)), true},
		{boxOf(key(2, 0), key(1, 3)), true},
		{boxOf(key(1, 200), key(1, 3)), true},
		{boxOf(key(1, 2), key(2, 0)), false},
		{boxOf(key(2, 0), key(1, 2)), false},
		{boxOf(key(1, 3), key(7, 0)), false},
		{boxOf(key(7, 0), key(1, 3)), false},
		{boxOf(key(7, 0), key(7, 0)), false},
		{boxOf(own, far), true},
		{boxOf(far, own), true},
		{boxOf(own, key(1, 3)), true},
		{boxOf(own, key(7, 0)), false},
		{boxOf(key(7, 0), own), false},
		{boxOf(key(api.OwnBase-1, 0), own), false},
		{boxOf(key(5, 1), key(6, 1)), true},
		{boxOf(key(5, 1), key(6, 2)), false},
		{boxOf(key(5, 2), key(6, 1)), false},
		{boxOf(key(6, 1), key(5, 1)), false},
		{boxOf(key(5, 1), key(1, 3)), false},
	} {
		wantAllowed(t, k, rekeyWith(c.b), c.want)
		wantAllowed(t, k, replyWith(c.b, blankBox, blankBox), c.want)
		wantAllowed(t, k, replyWith(blankBox, blankBox, c.b), c.want)
		// At each place of several, the others being allowed.
		fill := []api.Box{blankBox, boxOf(key(5, 1), key(6, 1)), boxOf(key(1, 4), key(2, 9))}
		for place := range 4 {
			wantAllowed(t, k, rekeyWith(slices.Insert(slices.Clone(fill), place, c.b)...), c.want)
		}
		for place := range fill {
			path := slices.Clone(fill)
			path[place] = c.b
			wantAllowed(t, k, replyWith(path[0], path[1], path[2]), c.want)
		}
	}
}

// P21.1: whether a sealed text is allowed: seen as it is, or under a key that is had.
func TestAllowedTexts(t *testing.T) {
	k := know.New()
	k.Learn(key(1, 3))
	watch(t, k, dataWith(4, key(9, 2), "seen"))
	watch(t, k, dataWith(5, key(9, 2), ""))
	// A box under or with a key of that name makes no text of it.
	watch(t, k, rekeyWith(boxOf(key(9, 2), key(9, 2))))
	for _, c := range []struct {
		m    api.Message
		want bool
	}{
		{dataWith(4, key(9, 2), "seen"), true},
		{dataWith(5, key(9, 2), ""), true},
		{dataWith(5, key(9, 2), "seen"), false},
		{dataWith(4, key(9, 2), ""), false},
		{dataWith(4, key(9, 2), "seen "), false},
		{dataWith(4, key(9, 2), "Seen"), false},
		{dataWith(4, key(9, 3), "seen"), false},
		{dataWith(4, key(9, 1), "seen"), false},
		{dataWith(1, key(1, 3), "any"), true},
		{dataWith(200, key(1, 255), strings.Repeat("\x00", api.MaxText)), true},
		{dataWith(1, key(1, 2), "any"), false},
		{dataWith(1, own, "any"), true},
		{dataWith(1, key(api.MaxBase, api.MaxStep), ""), true},
		{dataWith(1, key(api.OwnBase-1, 0), ""), false},
	} {
		wantAllowed(t, k, c.m, c.want)
	}
	k.Learn(key(9, 1))
	wantAllowed(t, k, dataWith(5, key(9, 2), "seen"), true)
	wantAllowed(t, k, dataWith(5, key(9, 0), "seen"), false)
}

// P21.1: a request is allowed to everybody, and so is a message without boxes.
func TestAllowedWithoutBoxes(t *testing.T) {
	k := know.New()
	for who := 0; who < api.MaxWho; who += 15 {
		for _, epoch := range []int{1, 100, api.MaxEpoch} {
			wantAllowed(t, k, api.Message{Kind: api.KindRequest, Request: api.Request{Who: who, Epoch: epoch}}, true)
		}
	}
	empty := rekeyMessage()
	empty.Rekey.Items = nil
	wantAllowed(t, k, empty, true)
	for kind := api.KindRekey; kind <= api.KindData; kind++ {
		text, _ := spy.Cook(nil, recipe(blankStep(kind)))
		if !spy.Allowed(k, text) {
			t.Errorf("a blank message of the kind %d isn't allowed", kind)
		}
	}
}

// P21.3: the boxes that were watched count, not their order, their places, their message, nor what else stands in it.
func TestWatchedBoxesElsewhere(t *testing.T) {
	k := know.New()
	first, second := rekeyMessage(), replyMessage()
	for _, m := range []api.Message{first, second} {
		wantAllowed(t, k, m, false)
		watch(t, k, m)
		wantAllowed(t, k, m, true)
	}
	other := rekeyMessage()
	slices.Reverse(other.Rekey.Items)
	wantAllowed(t, k, other, true)
	other.Rekey.Items = append(other.Rekey.Items, other.Rekey.Items...)
	other.Rekey.Epoch, other.Rekey.Leaves, other.Rekey.Joins = 150, nil, []api.Seat{seat(70, 7)}
	wantAllowed(t, k, other, true)
	for i := range other.Rekey.Items {
		other.Rekey.Items[i].Node, other.Rekey.Items[i].From = 20, 81+i%4
	}
	wantAllowed(t, k, other, true)
	turned := replyMessage()
	turned.Reply.Path[0], turned.Reply.Path[2] = turned.Reply.Path[2], turned.Reply.Path[0]
	wantAllowed(t, k, turned, true)
	turned.Reply.Who, turned.Reply.Slot, turned.Reply.Epoch = 200, 0, 200
	wantAllowed(t, k, turned, true)
	wantAllowed(t, k, replyWith(box(1), box(12), box(4)), true)
	wantAllowed(t, k, rekeyWith(box(11), box(2), blankBox, box(13)), true)
	// With one that wasn't watched, at whatever place, it isn't allowed any more.
	for place := range first.Rekey.Items {
		m := rekeyMessage()
		m.Rekey.Items[place].Box = box(30)
		wantAllowed(t, k, m, false)
		m.Rekey.Items[place].Box = boxOf(first.Rekey.Items[place].Box.Under, own)
		wantAllowed(t, k, m, false)
	}
	for place := range api.Height {
		m := replyMessage()
		m.Reply.Path[place] = box(30)
		wantAllowed(t, k, m, false)
		m.Reply.Path[place] = boxOf(own, second.Reply.Path[place].Load)
		wantAllowed(t, k, m, false)
	}
}

// P21.1: the longest message: each of its boxes is seen, and each one is asked after.
func TestLongestMessage(t *testing.T) {
	var boxes []api.Box
	for i := range 1536 {
		boxes = append(boxes, box(i))
	}
	k := know.New()
	watch(t, k, rekeyWith(boxes...))
	wantAllowed(t, k, rekeyWith(boxes...), true)
	for _, b := range boxes {
		if !k.Makes(b) {
			t.Fatal("a box of the longest message wasn't seen")
		}
	}
	for _, place := range []int{0, 1, 767, 1534, 1535} {
		other := slices.Clone(boxes)
		other[place] = box(1536 + place)
		wantAllowed(t, k, rekeyWith(other...), false)
	}
}

// P1: a long text that is no message's ends soon.
func TestLongBytes(t *testing.T) {
	k := know.New()
	start := time.Now()
	for _, one := range []string{"\x00", "\x3f", "\x40", "\x80", "\xff"} {
		text := strings.Repeat(one, 1<<22)
		spy.Watch(k, text)
		if !spy.Allowed(k, text) {
			t.Error("a long text isn't allowed")
		}
	}
	wantKeys(t, k)
	if took := time.Since(start); took > 30*time.Second {
		t.Errorf("it took %v", took)
	}
}

// drawMessage has few names, so that boxes come again and open one another.
func drawMessage(rng *rand.Rand) api.Message {
	draw := func() api.Key {
		if rng.Intn(12) == 0 {
			return key(api.OwnBase+rng.Intn(3), rng.Intn(3))
		}
		return key(1+rng.Intn(7), rng.Intn(3))
	}
	switch kind := 1 + rng.Intn(4); kind {
	case api.KindRekey:
		var boxes []api.Box
		for range rng.Intn(4) {
			boxes = append(boxes, boxOf(draw(), draw()))
		}
		return rekeyWith(boxes...)
	case api.KindReply:
		return replyWith(boxOf(draw(), draw()), boxOf(draw(), draw()), boxOf(draw(), draw()))
	case api.KindData:
		return dataWith(1+rng.Intn(2), draw(), []string{"", "a"}[rng.Intn(2)])
	default:
		return api.Message{Kind: kind, Request: api.Request{Who: rng.Intn(3), Epoch: 1}}
	}
}

// P21.1, P21.3, P21.4: rows of messages and keys, held against plain lists that are closed anew each time: what is had, what is allowed, that asking changes nothing, that what was watched stays allowed, and that watching what is allowed gives no key.
func TestRows(t *testing.T) {
	rng := rand.New(rand.NewSource(3))
	yes, no, gained := make(map[int]int), make(map[int]int), 0
	for range 400 {
		k := know.New()
		var m mind
		var watched []api.Message
		for range 25 {
			one := drawMessage(rng)
			text := bytesOf(t, one)
			before := k.Copy()
			may := spy.Allowed(k, text)
			if may != m.allowed(one) || may != spy.Allowed(k, text) {
				t.Fatalf("a message of the kind %d: %v", one.Kind, may)
			}
			same(t, k, before, append(watched, one))
			switch {
			case may:
				yes[one.Kind]++
			default:
				no[one.Kind]++
			}
			if rng.Intn(5) == 0 {
				x := key(1+rng.Intn(7), rng.Intn(3))
				k.Learn(x)
				m.told = append(m.told, x)
				before = k.Copy()
				may = spy.Allowed(k, text)
			}
			if !may && rng.Intn(3) == 0 {
				continue
			}
			spy.Watch(k, text)
			m.watch(one)
			watched = append(watched, one)
			if !slices.Equal(k.Keys(), least(m.keys())) {
				t.Fatal("other keys are had than the watched boxes give")
			}
			if grown := !slices.Equal(k.Keys(), before.Keys()); grown && may {
				t.Fatalf("an allowed message of the kind %d gave a key", one.Kind)
			} else if grown {
				gained++
			}
			for _, w := range watched {
				wantAllowed(t, k, w, true)
			}
			if t.Failed() {
				t.FailNow()
			}
		}
	}
	for _, kind := range []int{api.KindRekey, api.KindReply, api.KindData} {
		if yes[kind] < 50 || no[kind] < 50 {
			t.Errorf("the kind %d: allowed %d times, refused %d times", kind, yes[kind], no[kind])
		}
	}
	if no[api.KindRequest] > 0 || gained < 100 {
		t.Errorf("%d requests refused, %d messages gave a key", no[api.KindRequest], gained)
	}
}

// R6: what one object was shown isn't seen in another.
func TestTwoApart(t *testing.T) {
	a, b := know.New(), know.New()
	watch(t, a, rekeyMessage())
	wantAllowed(t, a, rekeyMessage(), true)
	wantAllowed(t, b, rekeyMessage(), false)
	watch(t, b, dataMessage())
	wantAllowed(t, a, dataMessage(), false)
	wantAllowed(t, b, dataMessage(), true)
}

// A play is a server's row of trees, and an adversary that sees whatever is sent.
type play struct {
	t       *testing.T
	rng     *rand.Rand
	trees   []api.Tree
	k       *know.Know
	seen    []api.Packet
	reveals []api.Reveal
	forged  int
}

func (p *play) last() api.Tree { return p.trees[len(p.trees)-1] }

func (p *play) people() []int {
	var list []int
	for _, entry := range p.last().Roster {
		if entry.Base > 0 {
			list = append(list, entry.Who)
		}
	}
	return list
}

func (p *play) send(text string) {
	p.seen = append(p.seen, api.Packet{N: len(p.seen) + 1, From: api.FromServer, Bytes: text})
	spy.Watch(p.k, text)
}

func (p *play) sendMessage(m api.Message) { p.send(bytesOf(p.t, m)) }

func (p *play) batch() {
	var b api.Batch
	on := p.people()
	for who := range 12 {
		switch in := slices.Contains(on, who); {
		case in && p.rng.Intn(5) == 0:
			b.Leaves = append(b.Leaves, who)
		case !in && p.rng.Intn(4) == 0:
			b.Joins = append(b.Joins, who)
		}
	}
	tree, rekey, e := plan.Next(p.last(), b)
	if e != api.OK {
		p.t.Fatalf("a batch is refused: %d", e)
	}
	p.trees = append(p.trees, tree)
	p.sendMessage(api.Message{Kind: api.KindRekey, Rekey: rekey})
}

// device is somebody's who stands at the last tree, if anybody does.
func (p *play) device() (api.Member, bool) {
	on := p.people()
	if len(on) == 0 {
		return api.Member{}, false
	}
	state, e := keytree.Stand(p.last(), on[p.rng.Intn(len(on))])
	return state, e == api.OK
}

func (p *play) reply() {
	if state, ok := p.device(); ok {
		reply, e := recovery.Answer(p.last(), api.Request{Who: state.Who, Epoch: 1 + p.rng.Intn(p.last().Epoch)})
		if e == api.OK {
			p.sendMessage(api.Message{Kind: api.KindReply, Reply: reply})
		}
	}
}

func (p *play) say() {
	if state, ok := p.device(); ok {
		said, e := data.Seal(state, "a text")
		if e != api.OK {
			p.t.Fatalf("a text isn't sealed: %d", e)
		}
		p.sendMessage(api.Message{Kind: api.KindData, Sealed: said})
	}
}

func (p *play) reveal() {
	if state, ok := p.device(); ok {
		p.k.Learn(state.Leaf)
		for _, x := range state.Path {
			p.k.Learn(x)
		}
		p.reveals = append(p.reveals, api.Reveal{Who: state.Who, Epoch: state.Epoch})
	}
}

// forge cooks something out of what was seen, and sends it if it may.
func (p *play) forge() {
	steps := recipe(takeStep(1 + p.rng.Intn(len(p.seen)+1)))
	for range p.rng.Intn(4) {
		steps = append(steps, drawStep(p.rng, 1+p.rng.Intn(4)))
	}
	text, e := spy.Cook(p.seen, steps)
	if e != api.OK || !spy.Allowed(p.k, text) {
		return
	}
	before := p.k.Keys()
	p.send(text)
	p.forged++
	if !slices.Equal(before, p.k.Keys()) {
		p.t.Fatal("what the adversary sent itself gave it a key")
	}
}

// slotAt is where somebody sits at an epoch, or -1.
func slotAt(tree api.Tree, who int) int {
	return slices.IndexFunc(tree.Roster[:], func(one api.Entry) bool { return one.Base > 0 && one.Who == who })
}

// excused: is there a reveal for the key of the node at the epoch, as P4 has it?
func (p *play) excused(epoch, node int) bool {
	return slices.ContainsFunc(p.reveals, func(r api.Reveal) bool {
		if r.Epoch > epoch {
			return false
		}
		for e := r.Epoch; e <= epoch; e++ {
			if slotAt(p.trees[e], r.Who) < 0 {
				return false
			}
		}
		path, _ := shape.Path(slotAt(p.trees[epoch], r.Who))
		return slices.Contains(path[:], node)
	})
}

// hold holds P4 for every epoch and inner node, and answers how many keys are had.
func (p *play) hold() int {
	had := 0
	for epoch, tree := range p.trees {
		for node, x := range tree.Keys {
			if !p.k.Has(x) {
				continue
			}
			had++
			if !p.excused(epoch, node) {
				p.t.Fatalf("the key of the node %d at the epoch %d is had without any excuse", node, epoch)
			}
		}
	}
	return had
}

// P4, P21.4: an adversary that watches whatever leaves and sends what it may has a key of an inner node only by a reveal that excuses it; without any reveal it has none.
func TestSecrecy(t *testing.T) {
	rng := rand.New(rand.NewSource(4))
	had, forged := 0, 0
	for round := range 60 {
		p := &play{t: t, rng: rng, trees: []api.Tree{keytree.Start()}, k: know.New()}
		p.batch()
		for range 40 {
			switch rng.Intn(6) {
			case 0, 1:
				p.batch()
			case 2:
				p.reply()
			case 3:
				p.say()
			case 4:
				if round%2 == 1 && rng.Intn(4) == 0 {
					p.reveal()
				}
			default:
				p.forge()
			}
		}
		found := p.hold()
		if round%2 == 0 && len(p.k.Keys()) > 0 {
			t.Fatal("keys are had without any reveal")
		}
		had, forged = had+found, forged+p.forged
	}
	if had < 300 || forged < 100 {
		t.Errorf("%d keys were had, %d messages were forged", had, forged)
	}
}
