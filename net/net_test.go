package net_test

import (
	"math"
	"math/rand"
	"slices"
	"strings"
	"testing"
	"time"
	"unicode/utf8"

	"coterie/api"
	"coterie/keytree"
	"coterie/know"
	"coterie/member"
	"coterie/net"
	"coterie/plan"
	"coterie/roster"
	"coterie/wire"
)

func packet(n, from int, bytes string) api.Packet {
	return api.Packet{N: n, From: from, Bytes: bytes}
}

// model is the chapter told another way: a plain list of packets, and beside it a list of the numbers that were dropped.
type model struct {
	sent    []api.Packet
	dropped []int
}

func (m *model) send(from int, bytes string) int {
	number := 1
	if len(m.sent) > 0 {
		number = m.sent[len(m.sent)-1].N + 1
	}
	m.sent = append(m.sent, packet(number, from, bytes))
	return number
}

func (m *model) get(number int) (api.Packet, api.Errno) {
	for _, p := range m.sent {
		if p.N == number && !slices.Contains(m.dropped, number) {
			return p, api.OK
		}
	}
	return api.Packet{}, api.ErrPacket
}

func (m *model) drop(number int) api.Errno {
	_, e := m.get(number)
	if e == api.OK {
		m.dropped = append(m.dropped, number)
	}
	return e
}

func (m *model) waiting() []api.Packet {
	var list []api.Packet
	for _, p := range m.sent {
		if !slices.Contains(m.dropped, p.N) {
			list = append(list, p)
		}
	}
	return list
}

// hold holds what the object tells of itself against the lists.
func hold(t *testing.T, n *net.Net, waiting, seen []api.Packet) {
	t.Helper()
	if got := n.Waiting(); !slices.Equal(got, waiting) {
		t.Fatalf("%d are under way, not just the %d", len(got), len(waiting))
	}
	if got := n.Seen(); !slices.Equal(got, seen) {
		t.Fatalf("%d were seen, not just the %d", len(got), len(seen))
	}
}

func wantGet(t *testing.T, n *net.Net, number int, want api.Packet, status api.Errno) {
	t.Helper()
	if p, e := n.Get(number); p != want || e != status {
		t.Fatalf("Get(%d): %d, from %d, %d bytes, status %d", number, p.N, p.From, len(p.Bytes), e)
	}
}

func wantDrop(t *testing.T, n *net.Net, number int, status api.Errno) {
	t.Helper()
	if e := n.Drop(number); e != status {
		t.Fatalf("Drop(%d): %d", number, e)
	}
}

func wantSend(t *testing.T, n *net.Net, from int, bytes string, number int) {
	t.Helper()
	if got := n.Send(from, bytes); got != number {
		t.Fatalf("the number %d was given, not %d", got, number)
	}
}

// strange are numbers that no packet has, how many ever were sent in a test.
var strange = []int{math.MinInt, math.MinInt + 1, -1 << 32, -1<<32 + 1, -256, -2, -1, 0, 1 << 20, 1 << 31, 1 << 32, 1<<32 + 1, 1<<32 + 2, 1<<62 + 1, math.MaxInt - 1, math.MaxInt}

var senders = []int{math.MinInt, -1 << 32, -3, api.FromSpy, api.FromServer, 0, 1, 255, 256, 1 << 32, math.MaxInt}

var texts = []string{"", "a", "\x00", "\x00\x00", "a\x00", "\xff\xfe", "\xc3\x28", "é", "\n", "a longer text of some words", strings.Repeat("x", 5000)}

// P20.1, P20.2: the chapter's examples.
func TestExamples(t *testing.T) {
	n := net.New()
	wantSend(t, n, -1, "a", 1)
	wantSend(t, n, 5, "", 2)
	for range 2 {
		wantGet(t, n, 1, packet(1, -1, "a"), api.OK)
	}
	wantGet(t, n, 3, api.Packet{}, api.ErrPacket)
	wantGet(t, n, 0, api.Packet{}, api.ErrPacket)
	both := []api.Packet{packet(1, -1, "a"), packet(2, 5, "")}
	hold(t, n, both, both)
	wantDrop(t, n, 1, api.OK)
	wantDrop(t, n, 1, api.ErrPacket)
	wantGet(t, n, 1, api.Packet{}, api.ErrPacket)
	hold(t, n, both[1:], both)
	wantSend(t, n, -2, "a", 3)
	third := packet(3, -2, "a")
	hold(t, n, []api.Packet{both[1], third}, append(both, third))
}

// P20.1, P1, R2, R4: an object to which nothing was sent has no packet of any number.
func TestFresh(t *testing.T) {
	n := net.New()
	hold(t, n, nil, nil)
	for _, number := range append([]int{1, 2, 3}, strange...) {
		wantGet(t, n, number, api.Packet{}, api.ErrPacket)
		wantDrop(t, n, number, api.ErrPacket)
	}
	hold(t, n, nil, nil)
	wantSend(t, n, 0, "", 1)
	wantGet(t, n, 1, packet(1, 0, ""), api.OK)
}

// P20.1, R7: every sender with every text is sent, and is there as it was: as its bytes, whether they are UTF-8 or not.
func TestAnyPacket(t *testing.T) {
	n := net.New()
	var sent []api.Packet
	broken := 0
	for _, from := range senders {
		for _, text := range texts {
			p := packet(len(sent)+1, from, text)
			sent = append(sent, p)
			wantSend(t, n, from, text, p.N)
			wantGet(t, n, p.N, p, api.OK)
			if !utf8.ValidString(text) {
				broken++
			}
		}
	}
	hold(t, n, sent, sent)
	if broken == 0 {
		t.Error("every text was UTF-8")
	}
}

// P20.1: what is sent twice is two packets, and one of them is dropped without the other.
func TestSameTwice(t *testing.T) {
	n := net.New()
	wantSend(t, n, 7, "again", 1)
	wantSend(t, n, 7, "again", 2)
	wantDrop(t, n, 1, api.OK)
	wantGet(t, n, 1, api.Packet{}, api.ErrPacket)
	wantGet(t, n, 2, packet(2, 7, "again"), api.OK)
	wantSend(t, n, 7, "again", 3)
	wantDrop(t, n, 3, api.OK)
	wantGet(t, n, 2, packet(2, 7, "again"), api.OK)
	hold(t, n, []api.Packet{packet(2, 7, "again")}, []api.Packet{packet(1, 7, "again"), packet(2, 7, "again"), packet(3, 7, "again")})
}

// P20.1: numbers are given in turn and never again, behind drops of the first, of the last and of all.
func TestNumbersInTurn(t *testing.T) {
	drops := map[string]func(last int) []int{
		"none":  func(int) []int { return nil },
		"first": func(int) []int { return []int{1} },
		"last":  func(last int) []int { return []int{last} },
		"two":   func(last int) []int { return []int{last, last - 1} },
		"all": func(last int) []int {
			var list []int
			for number := range last {
				list = append(list, number+1)
			}
			return list
		},
	}
	for name, of := range drops {
		n := net.New()
		for number := 1; number <= 60; number++ {
			if got := n.Send(number%5, "text"); got != number {
				t.Fatalf("drops of %s: the number %d was given, not %d", name, got, number)
			}
			for _, dropped := range of(number) {
				n.Drop(dropped)
			}
		}
		if got := n.Seen(); len(got) != 60 || got[59].N != 60 {
			t.Errorf("drops of %s: %d were seen", name, len(got))
		}
	}
}

// P20.1: a packet that was got is under way as before, however often.
func TestGetLeaves(t *testing.T) {
	n := net.New()
	var sent []api.Packet
	for i := range 5 {
		sent = append(sent, packet(n.Send(i, texts[i]), i, texts[i]))
	}
	for range 20 {
		for _, p := range sent {
			wantGet(t, n, p.N, p, api.OK)
			hold(t, n, sent, sent)
		}
	}
	for _, p := range sent {
		wantDrop(t, n, p.N, api.OK)
	}
}

// P20.1, R2: a drop is answered by OK once and by ErrPacket ever after, also behind further packets; nothing but this packet goes.
func TestDropOnce(t *testing.T) {
	for first := 1; first <= 6; first++ {
		n := net.New()
		var sent, left []api.Packet
		for i := range 6 {
			p := packet(n.Send(i, "text"), i, "text")
			sent = append(sent, p)
			if p.N != first {
				left = append(left, p)
			}
		}
		wantDrop(t, n, first, api.OK)
		for i := range 4 {
			wantDrop(t, n, first, api.ErrPacket)
			wantGet(t, n, first, api.Packet{}, api.ErrPacket)
			hold(t, n, left, sent)
			p := packet(n.Send(i, ""), i, "")
			sent, left = append(sent, p), append(left, p)
		}
		for _, p := range left {
			wantGet(t, n, p.N, p, api.OK)
		}
	}
}

// P20.1, P1, R1 to R3: numbers that no packet has are answered by ErrPacket and the zero packet, and nothing changes.
func TestNoSuchNumber(t *testing.T) {
	n := net.New()
	sent := []api.Packet{packet(n.Send(4, "one"), 4, "one"), packet(n.Send(-1, "two"), -1, "two"), packet(n.Send(-2, "three"), -2, "three")}
	wantDrop(t, n, 2, api.OK)
	left := []api.Packet{sent[0], sent[2]}
	for _, number := range append([]int{2, 4, 5}, strange...) {
		wantGet(t, n, number, api.Packet{}, api.ErrPacket)
		wantDrop(t, n, number, api.ErrPacket)
		wantGet(t, n, number, api.Packet{}, api.ErrPacket)
		hold(t, n, left, sent)
	}
	wantSend(t, n, 0, "four", 4)
	wantGet(t, n, 4, packet(4, 0, "four"), api.OK)
}

// anyNumber draws a number: mostly one that was given, else the next one, one beyond it, or a strange one.
func anyNumber(chance *rand.Rand, given int) int {
	switch at := chance.Intn(10); {
	case at == 0:
		return given + 1
	case at == 1:
		return given + 2 + chance.Intn(1000)
	case at == 2:
		return strange[chance.Intn(len(strange))]
	case at == 3:
		return -chance.Intn(given + 2)
	default:
		return 1 + chance.Intn(given+1)
	}
}

func anyText(chance *rand.Rand) string {
	if chance.Intn(2) == 0 {
		return texts[chance.Intn(len(texts))]
	}
	bytes := make([]byte, chance.Intn(40))
	chance.Read(bytes)
	return string(bytes)
}

// P20.1, P20.2, R6: rows of calls answer what a plain list of packets answers.
func TestRows(t *testing.T) {
	got, refused, dropped, again := 0, 0, 0, 0
	for seed := range int64(60) {
		chance := rand.New(rand.NewSource(2000 + seed))
		n, m := net.New(), &model{}
		// Of some rows nearly all packets are dropped, of others hardly one.
		drops := 1 + chance.Intn(6)
		for range 150 {
			number := anyNumber(chance, len(m.sent))
			switch at := chance.Intn(6 + drops); {
			case at < 3:
				from, text := senders[chance.Intn(len(senders))], anyText(chance)
				wantSend(t, n, from, text, m.send(from, text))
			case at < 6:
				p, e := m.get(number)
				wantGet(t, n, number, p, e)
				if e == api.OK {
					got++
				} else {
					refused++
				}
			default:
				gone := slices.Contains(m.dropped, number)
				e := m.drop(number)
				wantDrop(t, n, number, e)
				if e == api.OK {
					dropped++
				} else if gone {
					again++
				}
			}
			hold(t, n, m.waiting(), m.sent)
		}
	}
	if got < 400 || refused < 1000 || dropped < 1000 || again < 300 {
		t.Errorf("only %d got, %d refused, %d dropped, %d dropped again", got, refused, dropped, again)
	}
}

// P20.1, R8: both lists rise by their numbers, in whatever order packets were dropped and others came.
func TestRising(t *testing.T) {
	chance := rand.New(rand.NewSource(2101))
	for range 30 {
		n := net.New()
		for range 100 {
			n.Send(chance.Intn(9), "text")
			if chance.Intn(3) == 0 {
				n.Drop(anyNumber(chance, len(n.Seen())))
			}
		}
		for _, list := range [][]api.Packet{n.Waiting(), n.Seen()} {
			for i := 1; i < len(list); i++ {
				if list[i].N <= list[i-1].N {
					t.Fatalf("%d stands behind %d", list[i].N, list[i-1].N)
				}
			}
		}
	}
}

// P20.2: Seen only grows, by just what is sent; Waiting is Seen without what was dropped.
func TestSeenGrows(t *testing.T) {
	chance := rand.New(rand.NewSource(2102))
	for range 20 {
		n := net.New()
		var before []api.Packet
		gone := map[int]int{}
		for range 120 {
			sends := chance.Intn(2)
			if sends == 1 {
				n.Send(chance.Intn(300)-3, anyText(chance))
			} else if number := anyNumber(chance, len(before)); n.Drop(number) == api.OK {
				gone[number]++
			}
			seen := n.Seen()
			if len(seen) != len(before)+sends || !slices.Equal(seen[:len(before)], before) {
				t.Fatalf("%d were seen, behind %d", len(seen), len(before))
			}
			before = seen
			left := slices.DeleteFunc(slices.Clone(seen), func(p api.Packet) bool { return gone[p.N] > 0 })
			if !slices.Equal(n.Waiting(), left) {
				t.Fatalf("what waits isn't all that was seen but the %d dropped", len(gone))
			}
			for number, times := range gone {
				if times != 1 || number < 1 || number > len(seen) {
					t.Fatalf("the packet %d was dropped %d times", number, times)
				}
			}
		}
	}
}

// spoil writes into all of a list, its spare room too, and into what is appended to it.
func spoil(list []api.Packet) {
	all := list[:cap(list)]
	for i := range all {
		all[i] = packet(-77, -77, "spoilt")
	}
	_ = append(list, packet(-78, -78, "spoilt"), packet(-79, -79, "spoilt"))
}

// R5: what is written into an answered list, its spare room too, or is appended to it, is seen nowhere else.
func TestListsAreNew(t *testing.T) {
	for dropped := range 6 {
		for sends := range 20 {
			n, m := net.New(), &model{}
			for i := range sends {
				m.send(i, "text")
				n.Send(i, "text")
			}
			for i := range dropped {
				m.drop(i*3 + 1)
				n.Drop(i*3 + 1)
			}
			for range 3 {
				other, another := n.Waiting(), n.Seen()
				spoil(n.Waiting())
				spoil(n.Seen())
				if !slices.Equal(other, m.waiting()) || !slices.Equal(another, m.sent) {
					t.Fatal("two answers share memory")
				}
				hold(t, n, m.waiting(), m.sent)
				for number := range sends + 2 {
					p, e := m.get(number)
					wantGet(t, n, number, p, e)
				}
				m.send(9, "more")
				n.Send(9, "more")
				hold(t, n, m.waiting(), m.sent)
			}
		}
	}
}

// R5: an answered list stays as it was, its spare room too, whatever comes later.
func TestAnswersStay(t *testing.T) {
	chance := rand.New(rand.NewSource(2103))
	n := net.New()
	type answer struct{ all, copied []api.Packet }
	var answers []answer
	sent := 0
	for range 200 {
		for _, list := range [][]api.Packet{n.Waiting(), n.Seen()} {
			answers = append(answers, answer{all: list[:cap(list)], copied: slices.Clone(list[:cap(list)])})
		}
		if chance.Intn(3) > 0 {
			sent = n.Send(chance.Intn(9), "text")
		} else {
			n.Drop(anyNumber(chance, sent))
		}
	}
	for _, a := range answers {
		if !slices.Equal(a.all, a.copied) {
			t.Fatalf("an answer with room for %d packets was changed", len(a.all))
		}
	}
}

// P20.1, R5: a text that is a piece of another one, or made of bytes that are written over, stays as it was sent.
func TestTextsStay(t *testing.T) {
	n := net.New()
	bytes := []byte("what is sent")
	whole := string(bytes)
	n.Send(1, whole[5:7])
	n.Send(2, string(bytes))
	for i := range bytes {
		bytes[i] = 'x'
	}
	sent := []api.Packet{packet(1, 1, "is"), packet(2, 2, "what is sent")}
	hold(t, n, sent, sent)
}

// R6: a look changes nothing: a row with looks between its steps answers as the one without.
func TestLooks(t *testing.T) {
	for seed := range int64(20) {
		chance := rand.New(rand.NewSource(2200 + seed))
		n, o := net.New(), net.New()
		sent := 0
		for range 100 {
			for range chance.Intn(4) {
				n.Waiting()
				n.Seen()
				n.Get(anyNumber(chance, sent))
			}
			if chance.Intn(2) == 0 {
				text := anyText(chance)
				sent = n.Send(3, text)
				wantSend(t, o, 3, text, sent)
			} else {
				number := anyNumber(chance, sent)
				wantDrop(t, o, number, n.Drop(number))
			}
		}
		hold(t, o, n.Waiting(), n.Seen())
	}
}

// R6: two objects have nothing to do with one another; each gives numbers of its own.
func TestObjectsApart(t *testing.T) {
	chance := rand.New(rand.NewSource(2104))
	var nets [4]*net.Net
	var models [4]model
	for i := range nets {
		nets[i] = net.New()
	}
	for range 600 {
		i := chance.Intn(len(nets))
		if chance.Intn(2) == 0 {
			text := anyText(chance)
			wantSend(t, nets[i], i, text, models[i].send(i, text))
		} else {
			number := anyNumber(chance, len(models[i].sent))
			wantDrop(t, nets[i], number, models[i].drop(number))
		}
		other := chance.Intn(len(nets))
		hold(t, nets[other], models[other].waiting(), models[other].sent)
	}
	for i := range nets {
		hold(t, nets[i], models[i].waiting(), models[i].sent)
	}
}

// P1: some thousand packets, with looks and drops at each of them, in a time that a person would wait.
func TestLongRows(t *testing.T) {
	start := time.Now()
	n := net.New()
	const many = 4000
	for number := 1; number <= many; number++ {
		wantSend(t, n, number, "text", number)
		wantGet(t, n, number, packet(number, number, "text"), api.OK)
		if number%2 == 0 {
			wantDrop(t, n, number/2, api.OK)
		}
		if got := len(n.Waiting()); got != number-number/2 {
			t.Fatalf("%d wait behind %d", got, number)
		}
		if got := len(n.Seen()); got != number {
			t.Fatalf("%d were seen behind %d", got, number)
		}
	}
	for number := many; number > many/2; number-- {
		wantDrop(t, n, number, api.OK)
	}
	if len(n.Waiting()) != 0 || len(n.Seen()) != many {
		t.Error("not all were dropped, or not all were seen")
	}
	wantSend(t, n, 0, "", many+1)
	if spent := time.Since(start); spent > 20*time.Second {
		t.Errorf("it took %v", spent)
	}
}

// P1: a hundred thousand packets, sent, got and dropped.
func TestManyPackets(t *testing.T) {
	start := time.Now()
	n := net.New()
	const many = 100000
	for number := 1; number <= many; number++ {
		wantSend(t, n, -1, "text", number)
	}
	for number := 1; number <= many; number++ {
		wantGet(t, n, number, packet(number, -1, "text"), api.OK)
		wantDrop(t, n, number, api.OK)
		wantDrop(t, n, number, api.ErrPacket)
	}
	if len(n.Waiting()) != 0 || len(n.Seen()) != many {
		t.Error("not all were dropped, or not all were seen")
	}
	if spent := time.Since(start); spent > 20*time.Second {
		t.Errorf("it took %v", spent)
	}
}

// play is a row of epochs, each message of which was sent over a network of which packets were lost.
type play struct {
	n     *net.Net
	trees []api.Tree
}

func isOn(tree api.Tree, who int) bool { return roster.Find(tree.Roster, who) >= 0 }

// playOf draws batches of some people, sends each step's message, and drops packets now and then.
func playOf(t *testing.T, chance *rand.Rand, steps int) play {
	t.Helper()
	one := play{n: net.New(), trees: []api.Tree{keytree.Start()}}
	for range steps {
		tree := one.trees[len(one.trees)-1]
		var b api.Batch
		for who := 1; who <= 9; who++ {
			if chance.Intn(5) != 0 {
				continue
			}
			if isOn(tree, who) {
				b.Leaves = append(b.Leaves, who)
			} else {
				b.Joins = append(b.Joins, who)
			}
		}
		next, rekey, e := plan.Next(tree, b)
		if e != api.OK {
			t.Fatal(e)
		}
		text, e := wire.Encode(api.Message{Kind: api.KindRekey, Rekey: rekey})
		if e != api.OK {
			t.Fatal(e)
		}
		one.n.Send(api.FromServer, text)
		one.trees = append(one.trees, next)
		if chance.Intn(2) == 0 {
			one.n.Drop(1 + chance.Intn(next.Epoch))
		}
	}
	return one
}

// stayed: was the person on in every epoch from the first to the last?
func stayed(trees []api.Tree, who, first, last int) bool {
	for epoch := first; epoch <= last; epoch++ {
		if !isOn(trees[epoch], who) {
			return false
		}
	}
	return first <= last
}

// P4: of all that was ever sent, dropped or not, and of one device that was opened, the adversary has the group keys of just the epochs to which this person stayed.
func TestSecrecy(t *testing.T) {
	had, lacked, lost := 0, 0, 0
	for seed := range int64(25) {
		chance := rand.New(rand.NewSource(2300 + seed))
		one := playOf(t, chance, 12)
		k := know.New()
		who, opened := 1+chance.Intn(9), 1+chance.Intn(12)
		state, e := keytree.Stand(one.trees[opened], who)
		if e == api.OK {
			k.Learn(state.Leaf)
			for _, x := range state.Path {
				k.Learn(x)
			}
		}
		for _, p := range one.n.Seen() {
			m, e := wire.Decode(p.Bytes)
			if e != api.OK {
				t.Fatal(e)
			}
			for _, b := range wire.Boxes(m) {
				k.See(b)
			}
		}
		for epoch := range one.trees {
			group, _ := keytree.Group(one.trees[epoch])
			want := stayed(one.trees, who, opened, epoch)
			if k.Has(group) != want {
				t.Fatalf("seed %d: the group key of %d: %v", seed, epoch, !want)
			}
			if want {
				had++
			} else {
				lacked++
			}
		}
		lost += len(one.n.Seen()) - len(one.n.Waiting())
	}
	if had < 20 || lacked < 100 || lost < 40 {
		t.Errorf("only %d had, %d not, %d lost", had, lacked, lost)
	}
}

// P4, P12: packets that are delivered in any order, doubled and lost lead a device to no key but the server's; what it isn't handed is still under way for others.
func TestDelivered(t *testing.T) {
	taken, refused := 0, 0
	for seed := range int64(25) {
		chance := rand.New(rand.NewSource(2400 + seed))
		one := playOf(t, chance, 12)
		who := 1 + chance.Intn(9)
		opened := slices.IndexFunc(one.trees, func(tree api.Tree) bool { return isOn(tree, who) })
		if opened < 0 {
			continue
		}
		state, _ := keytree.Stand(one.trees[opened], who)
		before := one.n.Waiting()
		for range 120 {
			p, e := one.n.Get(1 + chance.Intn(12))
			if e != api.OK {
				continue
			}
			m, _ := wire.Decode(p.Bytes)
			state, e = member.Apply(state, m.Rekey)
			if e != api.OK {
				refused++
				continue
			}
			taken++
			group, none := member.Group(state)
			want, _ := keytree.Group(one.trees[state.Epoch])
			if none == api.OK && group != want {
				t.Fatalf("seed %d: another group key at %d", seed, state.Epoch)
			}
		}
		if !slices.Equal(one.n.Waiting(), before) {
			t.Fatal("what was delivered is under way no more")
		}
	}
	if taken < 10 || refused < 500 {
		t.Errorf("only %d taken, %d refused", taken, refused)
	}
}
