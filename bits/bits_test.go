package bits_test

import (
	"math"
	"math/rand"
	"slices"
	"strconv"
	"strings"
	"testing"

	"coterie/api"
	"coterie/bits"
)

func field(value uint64, width int) api.Field { return api.Field{Value: value, Width: width} }

// greatest is the greatest number of a width, reckoned by doubling.
func greatest(width int) uint64 {
	var v uint64
	for range width {
		v = v*2 + 1
	}
	return v
}

// badWidths are no widths; among them those that look like one if a conversion cuts them to few bits.
func badWidths() []int {
	return []int{math.MinInt, math.MinInt + 1, math.MinInt + 8, -1<<32 + 3, -1 << 32, -256, -255, -65, -64, -63, -8, -2, -1, 0, 65, 66, 72, 127, 128, 255, 256, 257, 264, 1 << 16, 1<<31 + 1, 1<<32 + 1, 1<<32 + 8, math.MaxInt - 7, math.MaxInt - 1, math.MaxInt}
}

// values are numbers that the width holds: ordinary ones, and those at its edges.
func values(width int) []uint64 {
	list := []uint64{0, 1, greatest(width), greatest(width) - 1, greatest(width) / 3, greatest(width) / 3 * 2, 0x123456789abcdef0 & greatest(width), 0xfedcba9876543211 & greatest(width)}
	return append(list, greatest(width)-greatest(width-1)) // just the greatest bit
}

// tooGreat are numbers that the width doesn't hold.
func tooGreat(width int) []uint64 {
	if width >= 64 {
		return nil
	}
	least := greatest(width) + 1
	return []uint64{least, least + 1, least + greatest(width), 1 << 63, 1<<63 + 1, math.MaxUint64 - 1, math.MaxUint64}
}

// digits are a field's bits as noughts and ones.
func digits(value uint64, width int) string {
	d := strconv.FormatUint(value, 2)
	if width < len(d) {
		panic("no right field")
	}
	return strings.Repeat("0", width-len(d)) + d
}

// digitsOf are the bits of a text's bytes.
func digitsOf(text string) string {
	var d strings.Builder
	for i := range len(text) {
		d.WriteString(digits(uint64(text[i]), 8))
	}
	return d.String()
}

// bytesOf are the bytes of bits, the document's way: noughts fill the last one.
func bytesOf(d string) string {
	var text []byte
	for len(d) > 0 {
		n := min(8, len(d))
		b, err := strconv.ParseUint(d[:n]+strings.Repeat("0", 8-n), 2, 8)
		if err != nil {
			panic(err)
		}
		text = append(text, byte(b))
		d = d[n:]
	}
	return string(text)
}

// number is the number of bits, the greatest first.
func number(d string) uint64 {
	v, err := strconv.ParseUint(d, 2, 64)
	if err != nil {
		panic(err)
	}
	return v
}

func wantWriter(t *testing.T, w *bits.Writer, d string) {
	t.Helper()
	if w.Len() != len(d) || w.Bytes() != bytesOf(d) {
		t.Fatalf("the writer has %d bits, bytes %x; put were %d, bytes %x", w.Len(), w.Bytes(), len(d), bytesOf(d))
	}
}

func wantReader(t *testing.T, r *bits.Reader, d string) {
	t.Helper()
	done := len(d) < 8 && !strings.Contains(d, "1")
	if r.Left() != len(d) || r.Done() != done {
		t.Fatalf("the reader has %d left, done %v; left are %q", r.Left(), r.Done(), d)
	}
}

// put puts a right field, and says which bits the writer has then.
func put(t *testing.T, w *bits.Writer, d string, value uint64, width int) string {
	t.Helper()
	if e := w.Put(value, width); e != api.OK {
		t.Fatalf("Put(%d, %d) = %d", value, width, e)
	}
	d += digits(value, width)
	wantWriter(t, w, d)
	return d
}

// refusePut puts fields that aren't right: the writer stays as it is.
func refusePut(t *testing.T, w *bits.Writer, d string, value uint64, width int) {
	t.Helper()
	if e := w.Put(value, width); e != api.ErrBits {
		t.Fatalf("Put(%d, %d) = %d, want ErrBits", value, width, e)
	}
	wantWriter(t, w, d)
}

// take takes bits that are there, and says which are left then.
func take(t *testing.T, r *bits.Reader, d string, width int) string {
	t.Helper()
	v, e := r.Take(width)
	if e != api.OK || v != number(d[:width]) {
		t.Fatalf("Take(%d) = %d, %d; next are %q", width, v, e, d[:width])
	}
	wantReader(t, r, d[width:])
	return d[width:]
}

// refuseTake takes what isn't there: the reader stays where it is.
func refuseTake(t *testing.T, r *bits.Reader, d string, width int) {
	t.Helper()
	if v, e := r.Take(width); v != 0 || e != api.ErrBits {
		t.Fatalf("Take(%d) with %d left = %d, %d; want 0, ErrBits", width, len(d), v, e)
	}
	wantReader(t, r, d)
}

// P3.1: the chapter's writer, call by call.
func TestWriterExample(t *testing.T) {
	w := bits.New()
	if w.Len() != 0 || w.Bytes() != "" {
		t.Errorf("a new writer: %d, %x", w.Len(), w.Bytes())
	}
	if e := w.Put(1, 1); e != api.OK || w.Len() != 1 || w.Bytes() != "\x80" {
		t.Errorf("Put(1, 1): %d, %d, %x", e, w.Len(), w.Bytes())
	}
	if e := w.Put(2, 1); e != api.ErrBits || w.Len() != 1 || w.Bytes() != "\x80" {
		t.Errorf("Put(2, 1): %d, %d, %x", e, w.Len(), w.Bytes())
	}
	if e := w.Put(3, 2); e != api.OK || w.Len() != 3 || w.Bytes() != "\xe0" {
		t.Errorf("Put(3, 2): %d, %d, %x", e, w.Len(), w.Bytes())
	}
}

// P3.1: every width at every place of a byte, ordinary numbers and the edges, with something behind it.
func TestPutEverywhere(t *testing.T) {
	for before := range 17 {
		for width := 1; width <= 64; width++ {
			for _, v := range values(width) {
				w, d := bits.New(), ""
				for i := range before {
					d = put(t, w, d, uint64(i%2), 1)
				}
				d = put(t, w, d, v, width)
				d = put(t, w, d, 5, 3)
				put(t, w, d, v, width)
			}
		}
	}
}

// P3.1: a width that is none, whatever the number, and a number that its width doesn't hold: nothing was put, and the writer goes on.
func TestPutRefused(t *testing.T) {
	for before := range 10 {
		w, d := bits.New(), ""
		for range before {
			d = put(t, w, d, 1, 1)
		}
		for _, width := range badWidths() {
			for _, v := range []uint64{0, 1, 2, 255, 1 << 63, math.MaxUint64} {
				refusePut(t, w, d, v, width)
			}
		}
		for width := 1; width <= 64; width++ {
			for _, v := range tooGreat(width) {
				refusePut(t, w, d, v, width)
			}
			d = put(t, w, d, greatest(width), width)
			d = put(t, w, d, 0, 1)
		}
	}
}

// P3.1: many calls on one writer, right ones and wrong ones.
func TestWriterLong(t *testing.T) {
	chance := rand.New(rand.NewSource(31))
	for range 200 {
		w, d := bits.New(), ""
		for range 60 {
			width := chance.Intn(70) - 3
			v := chance.Uint64() >> chance.Intn(64)
			if width < 1 || width > 64 || v > greatest(width) {
				refusePut(t, w, d, v, width)
			} else {
				d = put(t, w, d, v, width)
			}
		}
	}
}

// P3.1, R5: the bytes that a writer told stay as they were told while it goes on.
func TestBytesStay(t *testing.T) {
	w, d := bits.New(), ""
	var told, want []string
	for i := range 100 {
		d = put(t, w, d, uint64(i%8), 3)
		told = append(told, w.Bytes())
		want = append(want, bytesOf(d))
	}
	if !slices.Equal(told, want) {
		t.Error("bytes that were told have changed")
	}
}

// R6: two writers beside one another.
func TestTwoWriters(t *testing.T) {
	a, b := bits.New(), bits.New()
	da, db := "", ""
	for i := range 50 {
		da = put(t, a, da, uint64(i%4), 2)
		wantWriter(t, b, db)
		db = put(t, b, db, uint64(i*37), 13)
		wantWriter(t, a, da)
		refusePut(t, a, da, 4, 2)
		wantWriter(t, b, db)
	}
	wantWriter(t, bits.New(), "")
}

// texts are some bytes, of which none, few or many bits are 1.
func texts() []string {
	list := []string{"", "\x00", "\x01", "\x80", "\xff", "\xb0", "\xb0\x00", "\x00\x00", "\x01\x00", "\x00\x01", "\x00\x80"}
	long := make([]byte, 20)
	for i := range long {
		long[i] = byte(i*i*7 + 129)
	}
	return append(list, string(long), strings.Repeat("\xff", 19), strings.Repeat("\x00", 18))
}

// P3.1: every width at every place of a text: what is there is taken, what is beyond its end isn't.
func TestTakeEverywhere(t *testing.T) {
	for _, text := range texts() {
		all := digitsOf(text)
		for before := 0; before <= len(all); before++ {
			for width := 1; width <= 64; width++ {
				r, d := bits.Read(text), all
				for range before {
					d = take(t, r, d, 1)
				}
				if width > len(d) {
					refuseTake(t, r, d, width)
				} else {
					d = take(t, r, d, width)
				}
				if len(d) > 0 {
					take(t, r, d, 1)
				}
			}
		}
	}
}

// P3.1: a width that is none, wherever the reader stands; also at the end of a text.
func TestTakeRefused(t *testing.T) {
	for _, text := range texts() {
		r, d := bits.Read(text), digitsOf(text)
		for {
			for _, width := range badWidths() {
				refuseTake(t, r, d, width)
			}
			if len(d) == 0 {
				break
			}
			d = take(t, r, d, min(5, len(d)))
		}
		for width := 1; width <= 64; width++ {
			refuseTake(t, r, d, width)
		}
	}
}

// P3.1: a taking that asks one bit more than is left is refused; the one that asks just these isn't.
func TestTakeJust(t *testing.T) {
	for n := 1; n <= 8; n++ {
		text := strings.Repeat("\xa5", n)
		for before := range 8 {
			r, d := bits.Read(text), digitsOf(text)
			if before > 0 {
				d = take(t, r, d, before)
			}
			refuseTake(t, r, d, len(d)+1)
			refuseTake(t, r, d, len(d)+1)
			d = take(t, r, d, len(d))
			refuseTake(t, r, d, 1)
		}
	}
}

// P3.1: Left and Done at the end, and ahead of it, with a single bit that is 1 anywhere.
func TestDone(t *testing.T) {
	for size := 0; size <= 3; size++ {
		for one := -1; one < 8*size; one++ {
			b := make([]byte, size)
			if one >= 0 {
				b[one/8] = 128 >> (one % 8)
			}
			r, d := bits.Read(string(b)), digitsOf(string(b))
			wantReader(t, r, d)
			for len(d) > 0 {
				left := len(d) - 1
				d = take(t, r, d, 1)
				done := left == 0 || left < 8 && (one < 0 || one < 8*size-left)
				if r.Done() != done || r.Left() != left {
					t.Fatalf("%x with %d bits left: done %v, left %d", b, left, r.Done(), r.Left())
				}
			}
		}
	}
	if r := bits.Read(""); !r.Done() || r.Left() != 0 {
		t.Error("a text of no bytes isn't done")
	}
}

// R6: two readers of one text beside one another, and one of a writer's bytes while the writer goes on.
func TestTwoReaders(t *testing.T) {
	text := texts()[11]
	a, b := bits.Read(text), bits.Read(text)
	da, db := digitsOf(text), digitsOf(text)
	for len(da) >= 3 && len(db) >= 7 {
		da = take(t, a, da, 3)
		wantReader(t, b, db)
		db = take(t, b, db, 7)
		wantReader(t, a, da)
		refuseTake(t, a, da, 65)
		wantReader(t, b, db)
	}
	wantReader(t, bits.Read(text), digitsOf(text))
	w, d := bits.New(), ""
	d = put(t, w, d, 5, 3)
	r, dr := bits.Read(w.Bytes()), digitsOf(bytesOf(d))
	put(t, w, d, 31, 5)
	take(t, r, dr, 8)
}

func wantPack(t *testing.T, list []api.Field, want string, status api.Errno) {
	t.Helper()
	if got, e := bits.Pack(list); got != want || e != status {
		t.Fatalf("Pack(%v) = %x, %d; want %x, %d", list, got, e, want, status)
	}
}

func wantUnpack(t *testing.T, text string, widths []int, want []uint64, status api.Errno) {
	t.Helper()
	if got, e := bits.Unpack(text, widths); !slices.Equal(got, want) || e != status {
		t.Fatalf("Unpack(%x, %v) = %v, %d; want %v, %d", text, widths, got, e, want, status)
	}
}

// P3.2: the chapter's examples of Pack, and further ones.
func TestPack(t *testing.T) {
	wantPack(t, []api.Field{field(5, 3), field(1, 1), field(0, 4)}, "\xb0", api.OK)
	wantPack(t, []api.Field{field(5, 3)}, "\xa0", api.OK)
	wantPack(t, nil, "", api.OK)
	wantPack(t, []api.Field{}, "", api.OK)
	wantPack(t, []api.Field{field(math.MaxUint64, 64)}, "\xff\xff\xff\xff\xff\xff\xff\xff", api.OK)
	wantPack(t, []api.Field{field(0x0123456789abcdef, 64)}, "\x01\x23\x45\x67\x89\xab\xcd\xef", api.OK)
	wantPack(t, []api.Field{field(1, 64)}, "\x00\x00\x00\x00\x00\x00\x00\x01", api.OK)
	wantPack(t, []api.Field{field(1, 1), field(0, 64)}, "\x80\x00\x00\x00\x00\x00\x00\x00\x00", api.OK)
	wantPack(t, []api.Field{field(3, 9)}, "\x01\x80", api.OK)
	wantPack(t, []api.Field{field(0, 1)}, "\x00", api.OK)
	wantPack(t, []api.Field{field(8, 3)}, "", api.ErrBits)
	wantPack(t, []api.Field{field(0, 0)}, "", api.ErrBits)
	wantPack(t, []api.Field{field(0, 65)}, "", api.ErrBits)
	wantPack(t, []api.Field{field(1, -1)}, "", api.ErrBits)
}

// P3.2: one field that isn't right, wherever it stands: ErrBits, and no bytes.
func TestPackRefused(t *testing.T) {
	var wrong []api.Field
	for _, width := range badWidths() {
		wrong = append(wrong, field(0, width), field(1, width), field(math.MaxUint64, width))
	}
	for width := 1; width <= 64; width++ {
		for _, v := range tooGreat(width) {
			wrong = append(wrong, field(v, width))
		}
	}
	for _, f := range wrong {
		for at := range 4 {
			list := []api.Field{field(5, 3), field(1, 64), field(77, 8)}
			wantPack(t, slices.Insert(list, at, f), "", api.ErrBits)
		}
		wantPack(t, []api.Field{f}, "", api.ErrBits)
	}
}

// P3.2: the chapter's examples of Unpack, and further ones.
func TestUnpack(t *testing.T) {
	wantUnpack(t, "\xb0", []int{3, 1, 4}, []uint64{5, 1, 0}, api.OK)
	wantUnpack(t, "\xb0", []int{3, 1}, []uint64{5, 1}, api.OK)
	wantUnpack(t, "\xb1", []int{3, 1}, nil, api.ErrBits)
	wantUnpack(t, "\xb0\x00", []int{3, 1, 4}, nil, api.ErrBits)
	wantUnpack(t, "\xb0", []int{9}, nil, api.ErrBits)
	wantUnpack(t, "", nil, nil, api.OK)
	wantUnpack(t, "", []int{}, nil, api.OK)
	wantUnpack(t, "", []int{1}, nil, api.ErrBits)
	wantUnpack(t, "\x00", nil, nil, api.ErrBits)
	wantUnpack(t, "\x00", []int{1}, []uint64{0}, api.OK)
	wantUnpack(t, "\xff\xff\xff\xff\xff\xff\xff\xff", []int{64}, []uint64{math.MaxUint64}, api.OK)
	wantUnpack(t, "\xff\xff\xff\xff\xff\xff\xff\xff\x00", []int{64}, nil, api.ErrBits)
	wantUnpack(t, "\x80\x00\x00\x00\x00\x00\x00\x00\x80", []int{1, 64}, []uint64{1, 1}, api.OK)
	wantUnpack(t, "\x80\x00\x00\x00\x00\x00\x00\x00\x81", []int{1, 64}, nil, api.ErrBits)
}

// P3.2: one width that is none, wherever it stands.
func TestUnpackRefused(t *testing.T) {
	for _, width := range badWidths() {
		for at := range 4 {
			wantUnpack(t, "\x12\x34\x56\x78\x9a", slices.Insert([]int{16, 16, 8}, at, width), nil, api.ErrBits)
		}
		wantUnpack(t, "\x12", []int{width}, nil, api.ErrBits)
		wantUnpack(t, "", []int{width}, nil, api.ErrBits)
	}
}

// unpacked is what the document asks of Unpack, told from the text's noughts and ones.
func unpacked(text string, widths []int) ([]uint64, api.Errno) {
	d := digitsOf(text)
	var list []uint64
	for _, width := range widths {
		if width < 1 || width > 64 || width > len(d) {
			return nil, api.ErrBits
		}
		list = append(list, number(d[:width]))
		d = d[width:]
	}
	if len(d) >= 8 || strings.Contains(d, "1") {
		return nil, api.ErrBits
	}
	return list, api.OK
}

func fields(list []uint64, widths []int) []api.Field {
	var made []api.Field
	for i, v := range list {
		made = append(made, field(v, widths[i]))
	}
	return made
}

// checkBack holds Unpack against the document, and Pack of what it takes against the text.
func checkBack(t *testing.T, text string, widths []int) {
	t.Helper()
	want, status := unpacked(text, widths)
	wantUnpack(t, text, widths, want, status)
	if status == api.OK {
		wantPack(t, fields(want, widths), text, api.OK)
	}
}

// P3.2: all texts of up to two bytes, with many rows of widths: just what Pack writes is taken.
func TestUnpackShort(t *testing.T) {
	rows := [][]int{nil, {1}, {2}, {7}, {8}, {9}, {10}, {15}, {16}, {17}, {64}, {1, 1}, {3, 1}, {3, 1, 4}, {4, 5}, {8, 8}, {7, 9}, {9, 7}, {1, 7, 1, 7}, {1, 1, 1, 1, 1, 1, 1, 1, 1}, {5, 5, 5, 1}, {5, 5, 5, 2}, {0}, {3, -1}, {8, 65}}
	for _, widths := range rows {
		checkBack(t, "", widths)
		for a := range 256 {
			checkBack(t, string([]byte{byte(a)}), widths)
		}
		for w := range 1 << 16 {
			checkBack(t, string([]byte{byte(w >> 8), byte(w)}), widths)
		}
	}
}

// P3.2: many rows of fields there and back; and with a bit turned, a byte more or a byte less, only what is written so again is taken.
func TestThereAndBack(t *testing.T) {
	chance := rand.New(rand.NewSource(32))
	for range 1500 {
		var list []api.Field
		var widths []int
		var numbers []uint64
		d := ""
		for range chance.Intn(12) {
			width := 1 + chance.Intn(64)
			v := chance.Uint64() & greatest(width) >> chance.Intn(width)
			list = append(list, field(v, width))
			widths = append(widths, width)
			numbers = append(numbers, v)
			d += digits(v, width)
		}
		text := bytesOf(d)
		wantPack(t, list, text, api.OK)
		wantUnpack(t, text, widths, numbers, api.OK)
		wantUnpack(t, text+"\x00", widths, nil, api.ErrBits)
		if len(text) == 0 {
			continue
		}
		wantUnpack(t, text[:len(text)-1], widths, nil, api.ErrBits)
		for bit := range 8 * len(text) {
			b := []byte(text)
			b[bit/8] ^= 128 >> (bit % 8)
			checkBack(t, string(b), widths)
		}
	}
}

// R5: the lists that are handed in stay, spare room too; the answers are memory of their own.
func TestShares(t *testing.T) {
	room := []api.Field{field(5, 3), field(1, 1), field(0, 4), field(9, 9)}
	before := slices.Clone(room)
	wantPack(t, room[:3], "\xb0", api.OK)
	wantPack(t, room[:2], "\xb0", api.OK)
	if !slices.Equal(room, before) {
		t.Errorf("Pack changed the list: %v", room)
	}
	widths := []int{3, 1, 4, 9}
	first, _ := bits.Unpack("\xb0", widths[:3])
	second, _ := bits.Unpack("\xb0", widths[:3])
	for i := range first[:cap(first)] {
		first[:cap(first)][i] = 99
	}
	if !slices.Equal(second, []uint64{5, 1, 0}) || !slices.Equal(widths, []int{3, 1, 4, 9}) {
		t.Errorf("the answers share memory: %v, %v", second, widths)
	}
}

// P3.3: a number in two parts, the upper bits and behind them the lower ones, at every place of a byte.
func TestTwoParts(t *testing.T) {
	for before := range 8 {
		for width := 2; width <= 64; width++ {
			for _, v := range values(width) {
				whole := bits.New()
				for range before {
					whole.Put(1, 1)
				}
				whole.Put(v, width)
				for low := 1; low < width; low++ {
					parts := bits.New()
					for range before {
						parts.Put(1, 1)
					}
					if parts.Put(v>>low, width-low) != api.OK || parts.Put(v&greatest(low), low) != api.OK {
						t.Fatalf("%d of %d bits, cut at %d: refused", v, width, low)
					}
					if parts.Len() != whole.Len() || parts.Bytes() != whole.Bytes() {
						t.Fatalf("%d of %d bits, cut at %d: %x, at once %x", v, width, low, parts.Bytes(), whole.Bytes())
					}
				}
			}
		}
	}
}
