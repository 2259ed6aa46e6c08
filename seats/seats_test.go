package seats_test

import (
	"fmt"
	"math"
	"math/rand"
	"slices"
	"strings"
	"testing"

	"coterie/api"
	"coterie/seats"
)

const full = math.MaxUint64

// model is a set another way: a mark for each slot.
type model [64]bool

// marks is the model of a word, made of it by halving.
func marks(s uint64) model {
	var m model
	for i := range m {
		m[i] = s%2 == 1
		s /= 2
	}
	return m
}

// word is the model's word, made by doubling.
func (m model) word() uint64 {
	var s uint64
	for i := range m {
		s *= 2
		if m[63-i] {
			s++
		}
	}
	return s
}

// from are the slots that are marked so, from a number on, rising.
func (m model) from(mark bool, from int) []int {
	var list []int
	for slot, is := range m {
		if slot >= from && is == mark {
			list = append(list, slot)
		}
	}
	return list
}

// first is the list's first number; -1: it has none.
func first(list []int) int {
	if len(list) == 0 {
		return -1
	}
	return list[0]
}

// sets are the empty set, the full one, those with just one slot in or out, those with two, runs from either end, and ordinary ones.
func sets() []uint64 {
	list := []uint64{0, full, 0xb, 9, 0x1f, 0xfffffffe, 0xffffffff, 1 << 32, 0x5555555555555555, 0xaaaaaaaaaaaaaaaa, 0x0123456789abcdef, 0xfedcba9876543210}
	for i := range 64 {
		one := uint64(1) << i
		list = append(list, one, full-one, one-1, full-(one-1), one|1, one|1<<63, full-(one|1))
	}
	chance := rand.New(rand.NewSource(81))
	for range 200 {
		list = append(list, chance.Uint64(), chance.Uint64()&chance.Uint64()&chance.Uint64(), chance.Uint64()|chance.Uint64()|chance.Uint64())
	}
	return list
}

// noSlots are numbers that are no slot, and among them those that would look like one if a conversion or a shift cut them.
func noSlots() []int {
	return []int{
		-1, -2, -9, -63, -64, -65, -127, -128, -192, -255, -256, -256 + 5, -65536, -65536 + 3, -1 << 31, -1<<31 - 1, -1<<31 + 5, -1 << 32, -1<<32 + 5, math.MinInt, math.MinInt + 1, math.MinInt + 63,
		64, 65, 66, 67, 100, 127, 128, 128 + 5, 191, 192, 255, 256, 256 + 3, 65535, 65536, 65536 + 1, 1<<31 - 1, 1 << 31, 1<<31 + 3, 1<<32 - 1, 1 << 32, 1<<32 + 5, 1<<32 + 63, 1 << 62, math.MaxInt - 63, math.MaxInt - 1, math.MaxInt,
	}
}

func wantWord(t *testing.T, what string, got, want uint64, e, status api.Errno) {
	t.Helper()
	if got != want || e != status {
		t.Fatalf("%s = %x, %d; want %x, %d", what, got, e, want, status)
	}
}

func wantNext(t *testing.T, s uint64, from, want int) {
	t.Helper()
	if got := seats.Next(s, from); got != want {
		t.Fatalf("Next(%x, %d) = %d, want %d", s, from, got, want)
	}
}

func wantLowest(t *testing.T, s uint64, want int) {
	t.Helper()
	if got := seats.Lowest(s); got != want {
		t.Fatalf("Lowest(%x) = %d, want %d", s, got, want)
	}
}

func wantTake(t *testing.T, s uint64, n int, list []int, behind uint64, status api.Errno) {
	t.Helper()
	got, word, e := seats.Take(s, n)
	if !slices.Equal(got, list) || word != behind || e != status {
		t.Fatalf("Take(%x, %d) = %v, %x, %d; want %v, %x, %d", s, n, got, word, e, list, behind, status)
	}
}

func wantOf(t *testing.T, list []int, want uint64, status api.Errno) {
	t.Helper()
	got, e := seats.Of(list)
	wantWord(t, fmt.Sprintf("Of(%.200v)", list), got, want, e, status)
}

func wantParse(t *testing.T, text string, want uint64, status api.Errno) {
	t.Helper()
	got, e := seats.Parse(text)
	wantWord(t, fmt.Sprintf("Parse of %d bytes, %.40q", len(text), text), got, want, e, status)
}

// P8.1: the chapter's examples.
func TestExamples(t *testing.T) {
	wantLowest(t, 0, 0)
	wantLowest(t, 0xb, 2)
	wantLowest(t, full, -1)
	wantNext(t, 0xb, 2, 3)
	wantNext(t, 0xb, -9, 0)
	wantNext(t, 0xb, 4, -1)
	got, e := seats.Put(0, 64)
	wantWord(t, "Put(0, 64)", got, 0, e, api.ErrSlot)
}

// P8.1: every slot of every set; just the one slot changes.
func TestHasPutDrop(t *testing.T) {
	for _, s := range sets() {
		m := marks(s)
		for slot := range 64 {
			if got := seats.Has(s, slot); got != m[slot] {
				t.Fatalf("Has(%x, %d) = %t", s, slot, got)
			}
			with, without := m, m
			with[slot], without[slot] = true, false
			got, e := seats.Put(s, slot)
			wantWord(t, fmt.Sprintf("Put(%x, %d)", s, slot), got, with.word(), e, api.OK)
			got, e = seats.Drop(s, slot)
			wantWord(t, fmt.Sprintf("Drop(%x, %d)", s, slot), got, without.word(), e, api.OK)
		}
	}
}

// P8.1: behind Put and behind Drop, asked slot by slot by Has.
func TestJustTheOneSlot(t *testing.T) {
	for _, s := range sets() {
		for _, slot := range []int{0, 1, 31, 32, 62, 63} {
			with, _ := seats.Put(s, slot)
			without, _ := seats.Drop(s, slot)
			if !seats.Has(with, slot) || seats.Has(without, slot) {
				t.Fatalf("%x: slot %d put: %x, dropped: %x", s, slot, with, without)
			}
			for other := range 64 {
				if is := seats.Has(s, other); other != slot && (seats.Has(with, other) != is || seats.Has(without, other) != is) {
					t.Fatalf("%x: slot %d put or dropped moves slot %d", s, slot, other)
				}
			}
		}
	}
}

// P8.1: slots at both ends, in words that are written out.
func TestEnds(t *testing.T) {
	for _, c := range []struct {
		s             uint64
		slot          int
		has           bool
		with, without uint64
		count, last   int
	}{
		{0, 0, false, 1, 0, 0, -1},
		{0, 63, false, 0x8000000000000000, 0, 0, -1},
		{1, 0, true, 1, 0, 1, -1},
		{0x8000000000000000, 63, true, 0x8000000000000000, 0, 1, 63},
		{full, 0, true, full, 0xfffffffffffffffe, 64, 63},
		{full, 63, true, full, 0x7fffffffffffffff, 64, 63},
		{0xfffffffffffffffe, 0, false, full, 0xfffffffffffffffe, 63, 63},
		{0x7fffffffffffffff, 63, false, full, 0x7fffffffffffffff, 63, -1},
		{0x100000000, 31, false, 0x180000000, 0x100000000, 1, -1},
		{0x100000000, 32, true, 0x100000000, 0, 1, -1},
	} {
		if seats.Has(c.s, c.slot) != c.has || seats.Count(c.s) != c.count {
			t.Errorf("%x: slot %d %t, count %d", c.s, c.slot, seats.Has(c.s, c.slot), seats.Count(c.s))
		}
		wantNext(t, c.s, 63, c.last)
		got, e := seats.Put(c.s, c.slot)
		wantWord(t, fmt.Sprintf("Put(%x, %d)", c.s, c.slot), got, c.with, e, api.OK)
		got, e = seats.Drop(c.s, c.slot)
		wantWord(t, fmt.Sprintf("Drop(%x, %d)", c.s, c.slot), got, c.without, e, api.OK)
	}
}

// P8.1, R2: there is no such slot: it isn't in, and the word beside the error is 0.
func TestNoSuchSlot(t *testing.T) {
	for _, slot := range noSlots() {
		for _, s := range sets() {
			if seats.Has(s, slot) {
				t.Fatalf("Has(%x, %d)", s, slot)
			}
			got, e := seats.Put(s, slot)
			wantWord(t, fmt.Sprintf("Put(%x, %d)", s, slot), got, 0, e, api.ErrSlot)
			got, e = seats.Drop(s, slot)
			wantWord(t, fmt.Sprintf("Drop(%x, %d)", s, slot), got, 0, e, api.ErrSlot)
		}
	}
}

// P8.1: how many are in, and the least that is out.
func TestCountAndLowest(t *testing.T) {
	for _, s := range sets() {
		m := marks(s)
		if got, want := seats.Count(s), len(m.from(true, 0)); got != want {
			t.Fatalf("Count(%x) = %d, want %d", s, got, want)
		}
		wantLowest(t, s, first(m.from(false, 0)))
	}
	for slot := range 64 {
		wantLowest(t, full-1<<slot, slot)
		wantLowest(t, 1<<slot-1, slot)
		if in, out := seats.Count(1<<slot), seats.Count(full-1<<slot); in != 1 || out != 63 {
			t.Errorf("slot %d alone in counts %d, alone out %d", slot, in, out)
		}
	}
	if none, all := seats.Count(0), seats.Count(full); none != 0 || all != 64 {
		t.Errorf("the empty set counts %d, the full one %d", none, all)
	}
}

// P8.1: from every slot on, from below the first, at the last, and beyond it.
func TestNext(t *testing.T) {
	for _, s := range sets() {
		m := marks(s)
		for from := -70; from <= 200; from++ {
			wantNext(t, s, from, first(m.from(true, from)))
		}
		for _, from := range noSlots() {
			want := -1
			if from < 0 {
				want = first(m.from(true, 0))
			}
			wantNext(t, s, from, want)
		}
	}
	for from := range 64 {
		wantNext(t, full, from, from)
		wantNext(t, 0, from, -1)
		wantNext(t, 1<<63, from, 63)
	}
	wantNext(t, full, 64, -1)
	wantNext(t, 1, math.MinInt, 0)
	wantNext(t, full, math.MaxInt, -1)
}

// P8.2: the chapter's examples.
func TestTakeExamples(t *testing.T) {
	wantTake(t, 0xb, 2, []int{2, 4}, 0x1f, api.OK)
	wantTake(t, 0xb, 0, nil, 0xb, api.OK)
	wantTake(t, 0xb, 62, nil, 0, api.ErrGroupFull)
	wantTake(t, 0xb, -1, nil, 0, api.ErrSlot)
}

// P8.2: from every set every number: of 0, of all that are free, of one more.
func TestTake(t *testing.T) {
	for _, s := range sets() {
		m := marks(s)
		free := m.from(false, 0)
		for n := range 66 {
			if n > len(free) {
				wantTake(t, s, n, nil, 0, api.ErrGroupFull)
				continue
			}
			behind := m
			for _, slot := range free[:n] {
				behind[slot] = true
			}
			wantTake(t, s, n, free[:n], behind.word(), api.OK)
		}
		wantTake(t, s, len(free), free, full, api.OK)
		wantTake(t, s, len(free)+1, nil, 0, api.ErrGroupFull)
	}
}

// P8.2: n times Lowest and Put.
func TestTakeIsLowestAndPut(t *testing.T) {
	for _, s := range sets() {
		var list []int
		behind := s
		for n := 0; ; n++ {
			slot := seats.Lowest(behind)
			wantTake(t, s, n, list, behind, api.OK)
			if slot == -1 {
				wantTake(t, s, n+1, nil, 0, api.ErrGroupFull)
				break
			}
			list = append(list, slot)
			behind, _ = seats.Put(behind, slot)
		}
	}
}

// P8.2: n below 0 is said ahead of the full set; numbers far out, also those that look small if they are cut.
func TestTakeRefused(t *testing.T) {
	for _, s := range sets() {
		for _, n := range noSlots() {
			switch {
			case n < 0:
				wantTake(t, s, n, nil, 0, api.ErrSlot)
			case n > 64:
				wantTake(t, s, n, nil, 0, api.ErrGroupFull)
			}
		}
	}
	wantTake(t, full, 0, nil, full, api.OK)
	wantTake(t, full, 1, nil, 0, api.ErrGroupFull)
	wantTake(t, full, -1, nil, 0, api.ErrSlot)
	wantTake(t, full, math.MinInt, nil, 0, api.ErrSlot)
	wantTake(t, 0, 65, nil, 0, api.ErrGroupFull)
	wantTake(t, full-1<<63, 1, []int{63}, full, api.OK)
	wantTake(t, full-1, 1, []int{0}, full, api.OK)
	wantTake(t, full-1<<63, 2, nil, 0, api.ErrGroupFull)
}

// P8.3: the chapter's examples.
func TestListExamples(t *testing.T) {
	wantOf(t, []int{3, 0, 3}, 9, api.OK)
	if got := seats.List(9); !slices.Equal(got, []int{0, 3}) {
		t.Errorf("List(9) = %v", got)
	}
	wantOf(t, []int{64}, 0, api.ErrSlot)
	wantOf(t, nil, 0, api.OK)
	wantOf(t, []int{}, 0, api.OK)
}

// P8.3: List tells the set's slots, rising; Of makes them the set again, in any order and with doubles.
func TestListAndOf(t *testing.T) {
	chance := rand.New(rand.NewSource(82))
	for _, s := range sets() {
		list := seats.List(s)
		if want := marks(s).from(true, 0); !slices.Equal(list, want) {
			t.Fatalf("List(%x) = %v, want %v", s, list, want)
		}
		wantOf(t, list, s, api.OK)
		slices.Reverse(list)
		wantOf(t, list, s, api.OK)
		list = append(list, list...)
		list = append(list, list...)
		chance.Shuffle(len(list), func(i, j int) { list[i], list[j] = list[j], list[i] })
		wantOf(t, list, s, api.OK)
	}
}

// P8.3: from a list to its set and back: what stands in it, rising, each once; lists longer than 64 too.
func TestOfAndList(t *testing.T) {
	chance := rand.New(rand.NewSource(83))
	for length := range 300 {
		list := make([]int, length)
		for i := range list {
			list[i] = chance.Intn(1 + chance.Intn(64))
		}
		s, e := seats.Of(list)
		want := slices.Compact(slices.Sorted(slices.Values(list)))
		if got := seats.List(s); e != api.OK || !slices.Equal(got, want) {
			t.Fatalf("%v: %d, %x, List %v, want %v", list, e, s, got, want)
		}
	}
	for slot := range 64 {
		wantOf(t, []int{slot}, 1<<slot, api.OK)
		wantOf(t, slices.Repeat([]int{slot}, 100), 1<<slot, api.OK)
	}
}

// P8.3, R2: one wrong slot, at the front, in the middle, at the end, alone, or beside others.
func TestOfRefused(t *testing.T) {
	ground := []int{5, 0, 63, 5, 17}
	long := slices.Repeat(seats.List(full), 3)
	for _, wrong := range noSlots() {
		wantOf(t, []int{wrong}, 0, api.ErrSlot)
		wantOf(t, []int{wrong, wrong}, 0, api.ErrSlot)
		for at := range len(ground) + 1 {
			wantOf(t, slices.Insert(slices.Clone(ground), at, wrong), 0, api.ErrSlot)
		}
		for _, at := range []int{0, 1, 63, 64, 65, 100, 191, 192} {
			wantOf(t, slices.Insert(slices.Clone(long), at, wrong), 0, api.ErrSlot)
		}
	}
	wantOf(t, ground, 1<<63|1<<17|1<<5|1, api.OK)
	wantOf(t, long, full, api.OK)
}

// P8.3: Next, each time from behind the slot it told, leads through List, and through nothing else.
func TestNextLeadsThroughList(t *testing.T) {
	for _, s := range sets() {
		var led []int
		for slot := seats.Next(s, 0); slot != -1; slot = seats.Next(s, slot+1) {
			led = append(led, slot)
			if len(led) > 64 {
				t.Fatalf("%x: Next has led through %v", s, led)
			}
		}
		list := seats.List(s)
		if !slices.Equal(led, list) || len(list) != seats.Count(s) {
			t.Fatalf("%x: Next leads through %v, the list is %v, the count %d", s, led, list, seats.Count(s))
		}
	}
}

// P8.4: the chapter's examples, and texts that are written out: slot 63's bit comes first.
func TestHex(t *testing.T) {
	for s, want := range map[uint64]string{
		9: "0000000000000009", 0: "0000000000000000", full: "ffffffffffffffff", 1: "0000000000000001", 1 << 63: "8000000000000000",
		0xa: "000000000000000a", 0xf: "000000000000000f", 0x10: "0000000000000010", 1 << 32: "0000000100000000", 1<<63 | 1: "8000000000000001",
		0x0123456789abcdef: "0123456789abcdef", 0xfedcba9876543210: "fedcba9876543210", full - 1: "fffffffffffffffe", full >> 1: "7fffffffffffffff", 0xb<<56 | 1: "0b00000000000001",
	} {
		if got := seats.Hex(s); got != want {
			t.Errorf("Hex(%#x) = %q, want %q", s, got, want)
		}
		wantParse(t, want, s, api.OK)
	}
}

// P8.4: Hex and back, of every set; the digits are those of the model's marks, four at a time.
func TestHexAndBack(t *testing.T) {
	for _, s := range sets() {
		m := marks(s)
		want := ""
		for i := 15; i >= 0; i-- {
			value := 0
			for bit := 3; bit >= 0; bit-- {
				value *= 2
				if m[4*i+bit] {
					value++
				}
			}
			want += fmt.Sprintf("%x", value)
		}
		if got := seats.Hex(s); got != want {
			t.Fatalf("Hex(%#x) = %q, want %q", s, got, want)
		}
		wantParse(t, want, s, api.OK)
	}
}

// P8.4: every byte at every place: a digit leads to the set and back, all else is refused.
func TestParseEveryByte(t *testing.T) {
	for _, ground := range []string{"0000000000000000", "ffffffffffffffff", "0123456789abcdef", "9a9a9a9a9a9a9a9a"} {
		for at := range 16 {
			for b := range 256 {
				text := ground[:at] + string([]byte{byte(b)}) + ground[at+1:]
				if !strings.ContainsRune("0123456789abcdef", rune(b)) {
					wantParse(t, text, 0, api.ErrText)
					continue
				}
				s, e := seats.Parse(text)
				if e != api.OK || seats.Hex(s) != text {
					t.Fatalf("Parse(%q) = %x, %d, and its Hex is %q", text, s, e, seats.Hex(s))
				}
			}
		}
	}
}

// P8.4: texts of other lengths, of digits alone.
func TestParseLengths(t *testing.T) {
	for n := range 140 {
		for _, digit := range []string{"0", "1", "9", "a", "f"} {
			if n != 16 {
				wantParse(t, strings.Repeat(digit, n), 0, api.ErrText)
			}
		}
		if n != 1 {
			wantParse(t, strings.Repeat("0", n)+"0123456789abcde", 0, api.ErrText)
			wantParse(t, "0123456789abcde"+strings.Repeat("0", n), 0, api.ErrText)
		}
	}
	for _, n := range []int{256, 256 + 16, 65536, 65536 + 16, 1 << 20} {
		wantParse(t, strings.Repeat("0", n), 0, api.ErrText)
		wantParse(t, strings.Repeat("f", n), 0, api.ErrText)
	}
}

// P8.4: no text of the form: great letters, signs, blanks, an x, a line's end, marks between digits, bytes beyond 127.
func TestParseRefused(t *testing.T) {
	for _, text := range []string{
		"", "9", "000000000000000A", "ABCDEF0000000000", "0000000000000FfF", "FFFFFFFFFFFFFFFF",
		"+000000000000009", "-000000000000009", "+0000000000000009", "-0000000000000009", "-0000000000000000", "0000000000000009-",
		" 000000000000009", "000000000000009 ", " 0000000000000009", "0000000000000009 ", "00000000 0000009", "                ",
		"0x00000000000009", "0X00000000000009", "0x0000000000000009", "x000000000000009", "000000000000009h", "\\x00000000000009",
		"000000000000009\n", "0000000000000009\n", "\n0000000000000009", "0000000000000009\r\n", "0000000000000009\x00", "\x000000000000000009",
		"0000_0000_0000_9", "0000000000000_09", "0_0", "0000000000000.09", "00000000000001e+", "0o00000000000001",
		"000000000000000\x80", "000000000000000\xff", "\xff\xff\xff\xff\xff\xff\xff\xff\xff\xff\xff\xff\xff\xff\xff\xff",
		"00000000000000\u00e9", "000000000000000\u00e9", "0000000000000\uff11", "000000000000000\u0661", "\u0661\u0662\u0663\u0664\u0661\u0662\u0663\u0664", "g000000000000000", "000000000000000/", "000000000000000:", "000000000000000`",
	} {
		wantParse(t, text, 0, api.ErrText)
	}
}

// overwrite changes a list, its spare room too.
func overwrite(list []int) {
	list = list[:cap(list)]
	for i := range list {
		list[i] = -7
	}
}

// R5: changing a list that was answered, its spare room too, changes no other answer, earlier or later.
func TestAnswersAreNewMemory(t *testing.T) {
	for _, s := range sets() {
		list, again := seats.List(s), seats.List(s)
		n := seats.Count(^s) / 2
		taken, behind, _ := seats.Take(s, n)
		retaken, _, _ := seats.Take(s, n)
		overwrite(list)
		overwrite(taken)
		m := marks(s)
		if !slices.Equal(again, m.from(true, 0)) || !slices.Equal(seats.List(s), again) {
			t.Fatalf("List(%x) is now %v, and was %v", s, seats.List(s), again)
		}
		if !slices.Equal(retaken, m.from(false, 0)[:n]) {
			t.Fatalf("Take(%x, %d) has become %v", s, n, retaken)
		}
		wantTake(t, s, n, retaken, behind, api.OK)
	}
}

// R5: the list that was handed in stays, spare room too, and isn't kept.
func TestGivenListStays(t *testing.T) {
	room := []int{7, 0, 7, 63, 12, 99, -3}
	for n := 0; n <= len(room); n++ {
		given := slices.Clone(room)
		first, status := seats.Of(given[:n])
		if !slices.Equal(given, room) {
			t.Fatalf("Of the first %d made %v of %v", n, given, room)
		}
		overwrite(given)
		wantOf(t, room[:n], first, status)
	}
}

// R6: what a call answers hangs on nothing that was asked before it.
func TestAnswersStay(t *testing.T) {
	for _, s := range sets() {
		seats.Take(s, 3)
		seats.Of(seats.List(s))
		seats.Of([]int{1, 2, 64})
		seats.Parse(seats.Hex(s))
		seats.Parse("x")
		wantTake(t, 0xb, 2, []int{2, 4}, 0x1f, api.OK)
		wantOf(t, []int{3, 0, 3}, 9, api.OK)
		wantParse(t, "0000000000000009", 9, api.OK)
		wantNext(t, 0xb, 2, 3)
	}
}
