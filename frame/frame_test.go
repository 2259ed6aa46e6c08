package frame_test

import (
	"encoding/binary"
	"hash/crc32"
	"math"
	"math/rand"
	"slices"
	"strings"
	"testing"

	"coterie/api"
	"coterie/frame"
)

// summed is the text with its sum behind it, worked out by the library.
func summed(text string) string {
	return string(binary.BigEndian.AppendUint32([]byte(text), crc32.ChecksumIEEE([]byte(text))))
}

// first28 are a block's bytes ahead of the sum, out of any numbers, right or not.
func first28(seq, part, parts, size int, data string) string {
	room := make([]byte, 28)
	binary.BigEndian.PutUint16(room, uint16(seq))
	room[2], room[3], room[4] = byte(part), byte(parts), byte(size)
	copy(room[5:], data)
	return string(room)
}

// blockOf is a piece's block another way; the piece has to be right.
func blockOf(p api.Piece) string {
	return summed(first28(p.Seq, p.Part, p.Parts, len(p.Data), p.Data))
}

// framed are the pieces of a frame another way: byte by byte.
func framed(seq int, payload string) []api.Piece {
	pieces := []api.Piece{{Seq: seq}}
	for i := range len(payload) {
		if i > 0 && i%23 == 0 {
			pieces = append(pieces, api.Piece{Seq: seq, Part: i / 23})
		}
		pieces[len(pieces)-1].Data += payload[i : i+1]
	}
	for i := range pieces {
		pieces[i].Parts = len(pieces)
	}
	return pieces
}

// isRight says of a piece whether it stands in some frame: one is made in which it would.
func isRight(p api.Piece) bool {
	if p.Seq < 1 || p.Seq > 65535 || p.Part < 0 || p.Part > 254 || p.Parts < 1 || p.Parts > 255 || len(p.Data) > 23 {
		return false
	}
	payload := strings.Repeat("\x00", p.Part*23) + p.Data
	if p.Part < p.Parts-1 {
		payload += strings.Repeat("\x00", (p.Parts-1-p.Part)*23)
	}
	return slices.Contains(framed(p.Seq, payload), p)
}

// texts of so many bytes: noughts, letters, runes of more bytes than one, and any bytes.
func texts(n int) []string {
	chance := rand.New(rand.NewSource(int64(n)))
	drawn := make([]byte, n)
	chance.Read(drawn)
	return []string{strings.Repeat("\x00", n), strings.Repeat("\xff", n), strings.Repeat("x", n), strings.Repeat("é", n)[:n], string(drawn)}
}

// rightPieces are right pieces at all the edges.
func rightPieces() []api.Piece {
	var list []api.Piece
	for _, seq := range []int{1, 2, 255, 256, 257, 0x1234, 65534, 65535} {
		for _, parts := range []int{1, 2, 3, 128, 254, 255} {
			for _, part := range []int{0, 1, parts / 2, parts - 2, parts - 1} {
				for _, size := range []int{0, 1, 2, 22, 23} {
					for _, data := range texts(size) {
						p := api.Piece{Seq: seq, Part: part, Parts: parts, Data: data}
						if part >= 0 && part < parts && (size == 23 || part == parts-1 && (size > 0 || parts == 1)) {
							list = append(list, p)
						}
					}
				}
			}
		}
	}
	return list
}

func wantBlock(t *testing.T, p api.Piece, want string, status api.Errno) {
	t.Helper()
	if got, e := frame.Block(p); got != want || e != status {
		t.Fatalf("Block(%+v) = %x, %d; want %x, %d", p, got, e, want, status)
	}
}

func wantPiece(t *testing.T, text string, want api.Piece, status api.Errno) {
	t.Helper()
	if got, e := frame.Unblock(text); got != want || e != status {
		t.Fatalf("Unblock(%x) = %+v, %d; want %+v, %d", text, got, e, want, status)
	}
}

func wantBlocks(t *testing.T, seq int, payload string, want []string, status api.Errno) {
	t.Helper()
	if got, e := frame.Pack(seq, payload); !slices.Equal(got, want) || e != status {
		t.Fatalf("Pack(%d, %d bytes) = %x, %d; want %x, %d", seq, len(payload), got, e, want, status)
	}
}

func wantWhole(t *testing.T, list []api.Piece, seq int, payload string, status api.Errno) {
	t.Helper()
	if n, text, e := frame.Whole(list); n != seq || text != payload || e != status {
		t.Fatalf("Whole of %d pieces = %d, %q, %d; want %d, %q, %d", len(list), n, text, e, seq, payload, status)
	}
}

func wantNotWhole(t *testing.T, list []api.Piece) {
	t.Helper()
	wantWhole(t, list, 0, "", api.ErrFrame)
}

// P6.1, P6.2: the chapter's examples.
func TestExamples(t *testing.T) {
	for n, want := range map[int]int{0: 1, 23: 1, 24: 2, 5865: 255, 5866: 0, -1: 0} {
		if got := frame.Parts(n); got != want {
			t.Errorf("Parts(%d) = %d, want %d", n, got, want)
		}
	}
	ab := api.Piece{Seq: 1, Parts: 1, Data: "ab"}
	wantBlock(t, ab, summed("\x00\x01\x00\x01\x02\x61\x62"+strings.Repeat("\x00", 21)), api.OK)
	block := blockOf(ab)
	wantPiece(t, block[:31], api.Piece{}, api.ErrFrame)
	wantPiece(t, strings.Repeat("\x00", 32), api.Piece{}, api.ErrFrame)
	wantPiece(t, summed(block[:27]+"\x01"), api.Piece{}, api.ErrFrame)
	wantBlocks(t, 0, "", nil, api.ErrFrame)
	x := strings.Repeat("x", 24)
	wantBlocks(t, 7, x, []string{blockOf(api.Piece{Seq: 7, Parts: 2, Data: x[:23]}), blockOf(api.Piece{Seq: 7, Part: 1, Parts: 2, Data: "x"})}, api.OK)
	wantNotWhole(t, nil)
	wantWhole(t, []api.Piece{{Seq: 7, Parts: 1}}, 7, "", api.OK)
	wantNotWhole(t, []api.Piece{{Seq: 7, Parts: 2, Data: x[:23]}})
}

// P6.1: the number of pieces is that of the frame, for each length that a payload has.
func TestParts(t *testing.T) {
	for n := range 5866 {
		want := 1
		for 23*want < n {
			want++
		}
		if got := frame.Parts(n); got != want {
			t.Fatalf("Parts(%d) = %d, want %d", n, got, want)
		}
	}
}

// P6.1, R1: lengths that no payload has, and numbers that look like one where their upper bits are cut off.
func TestNoParts(t *testing.T) {
	for _, n := range []int{-1, -2, -22, -23, -24, -5865, math.MinInt, math.MinInt + 1, math.MinInt32, -1<<32 + 5, 5866, 5867, 5887, 5888, 5889, 65535, 65536, 65541, math.MaxInt32, 1 << 31, 1 << 32, 1<<32 + 5, math.MaxInt, math.MaxInt - 22, math.MaxInt - 23} {
		if got := frame.Parts(n); got != 0 {
			t.Errorf("Parts(%d) = %d, want 0", n, got)
		}
	}
}

// P6.1, P10: right pieces at the edges: the block as it is said, and the same piece again.
func TestBlocks(t *testing.T) {
	for _, p := range rightPieces() {
		if !isRight(p) {
			t.Fatalf("%+v stands in no frame", p)
		}
		block := blockOf(p)
		if len(block) != 32 {
			t.Fatalf("a block of %d bytes", len(block))
		}
		wantBlock(t, p, block, api.OK)
		wantPiece(t, block, p, api.OK)
	}
}

// P6.1: every Seq, every pair of Part and Parts, and every length of Data, each with the rest right.
func TestEveryNumber(t *testing.T) {
	full := strings.Repeat("d", 23)
	for seq := 1; seq <= 65535; seq += 1 + seq%7 {
		p := api.Piece{Seq: seq, Parts: 1, Data: "s"}
		wantBlock(t, p, blockOf(p), api.OK)
		wantPiece(t, blockOf(p), p, api.OK)
	}
	for parts := 1; parts <= 255; parts++ {
		for part := range parts {
			p := api.Piece{Seq: 9, Part: part, Parts: parts, Data: full}
			wantBlock(t, p, blockOf(p), api.OK)
			wantPiece(t, blockOf(p), p, api.OK)
		}
	}
	for size := range 24 {
		for _, data := range texts(size) {
			p := api.Piece{Seq: 9, Parts: 1, Data: data}
			wantBlock(t, p, blockOf(p), api.OK)
			wantPiece(t, blockOf(p), p, api.OK)
		}
	}
}

// P6.1, R1: pieces that aren't right by one number, others that look right where upper bits are cut off, and Data of a wrong length.
func TestWrongPieces(t *testing.T) {
	full := strings.Repeat("d", 23)
	for _, seq := range []int{0, -1, -65535, math.MinInt, 65536, 65537, 1<<32 + 1, -1<<32 + 1, math.MaxInt} {
		wantBlock(t, api.Piece{Seq: seq, Parts: 1, Data: "d"}, "", api.ErrFrame)
		wantBlock(t, api.Piece{Seq: seq, Part: 1, Parts: 3, Data: full}, "", api.ErrFrame)
	}
	for _, parts := range []int{0, -1, -255, math.MinInt, 256, 257, 258, 511, 65537, 1<<32 + 1, -1<<32 + 1, math.MaxInt} {
		for _, part := range []int{0, 1, parts - 1, parts} {
			wantBlock(t, api.Piece{Seq: 1, Part: part, Parts: parts, Data: full}, "", api.ErrFrame)
		}
	}
	for _, parts := range []int{1, 2, 3, 254, 255} {
		for _, part := range []int{-1, -2, -255, -256, math.MinInt, parts, parts + 1, 255, 256, 257, 65536, 1 << 32, -1 << 32, math.MaxInt} {
			wantBlock(t, api.Piece{Seq: 1, Part: part, Parts: parts, Data: full}, "", api.ErrFrame)
		}
	}
}

// P6.1, R1: Data of more than 23 bytes; of fewer ahead of the last piece; of none at the end of several.
func TestWrongData(t *testing.T) {
	for _, size := range []int{24, 25, 27, 28, 32, 255, 256, 257, 279, 5865, 65536, 65537, 1 << 20} {
		data := strings.Repeat("d", size)
		for _, p := range []api.Piece{{Parts: 1}, {Parts: 2}, {Part: 1, Parts: 2}, {Part: 253, Parts: 255}, {Part: 254, Parts: 255}} {
			p.Seq, p.Data = 1, data
			wantBlock(t, p, "", api.ErrFrame)
		}
	}
	for _, parts := range []int{2, 3, 254, 255} {
		for _, part := range []int{0, parts/2 - 1, parts - 2} {
			for size := range 23 {
				p := api.Piece{Seq: 1, Part: max(0, part), Parts: parts, Data: strings.Repeat("d", size)}
				wantBlock(t, p, "", api.ErrFrame)
			}
		}
		wantBlock(t, api.Piece{Seq: 1, Part: parts - 1, Parts: parts}, "", api.ErrFrame)
	}
	wantBlock(t, api.Piece{}, "", api.ErrFrame)
}

// P6.1: drawn pieces, right and wrong ones, against what frames hold.
func TestDrawnPieces(t *testing.T) {
	chance := rand.New(rand.NewSource(61))
	seqs := []int{-1, 0, 1, 2, 300, 65535, 65536}
	rights := 0
	for range 20000 {
		parts := chance.Intn(6) - 1
		p := api.Piece{Seq: seqs[chance.Intn(len(seqs))], Part: chance.Intn(7) - 1, Parts: parts, Data: strings.Repeat("q", 23)}
		if chance.Intn(2) == 0 {
			p.Data = strings.Repeat("r", chance.Intn(26))
		}
		if !isRight(p) {
			wantBlock(t, p, "", api.ErrFrame)
			continue
		}
		rights++
		wantBlock(t, p, blockOf(p), api.OK)
	}
	if rights < 1000 {
		t.Errorf("only %d right pieces were drawn", rights)
	}
}

// P6.1, P10: texts whose sum fits, with every length byte and numbers at the edges: taken just if they are a right piece's block.
func TestHeads(t *testing.T) {
	taken := 0
	for _, seq := range []int{0, 1, 256, 65535} {
		for _, parts := range []int{0, 1, 2, 3, 128, 254, 255} {
			for _, part := range []int{0, 1, 2, 3, 127, 253, 254, 255} {
				for size := range 256 {
					data := strings.Repeat("h", min(size, 23))
					text := summed(first28(seq, part, parts, size, data))
					p := api.Piece{Seq: seq, Part: part, Parts: parts, Data: data}
					if size > 23 || !rightByRule(p) {
						wantPiece(t, text, api.Piece{}, api.ErrFrame)
						continue
					}
					taken++
					wantPiece(t, text, p, api.OK)
				}
			}
		}
	}
	if taken == 0 {
		t.Error("nothing was taken")
	}
}

// rightByRule is isRight for numbers that two bytes or one hold, without a frame made each time.
func rightByRule(p api.Piece) bool {
	if p.Seq == 0 || p.Part >= p.Parts {
		return false
	}
	if p.Part+1 < p.Parts {
		return len(p.Data) == 23
	}
	return p.Parts == 1 || p.Data != ""
}

// P6.1: a byte that isn't 0 behind the data, at each place, under a sum that fits.
func TestPadding(t *testing.T) {
	for size := range 23 {
		p := api.Piece{Seq: 3, Parts: 1, Data: strings.Repeat("p", size)}
		for at := 5 + size; at < 28; at++ {
			for _, b := range []byte{1, 0x10, 0x80, 0xff, ' ', 'p'} {
				room := []byte(blockOf(p)[:28])
				room[at] = b
				wantPiece(t, summed(string(room)), api.Piece{}, api.ErrFrame)
			}
		}
	}
}

// P6.1: texts that haven't 32 bytes: shorter and longer ones, with a sum that fits where there is room for one.
func TestWrongLengths(t *testing.T) {
	for _, p := range []api.Piece{{Seq: 1, Parts: 1}, {Seq: 1, Parts: 1, Data: "ab"}, {Seq: 65535, Part: 1, Parts: 255, Data: strings.Repeat("d", 23)}} {
		block := blockOf(p)
		for n := range 32 {
			wantPiece(t, block[:n], api.Piece{}, api.ErrFrame)
			wantPiece(t, block[32-n:], api.Piece{}, api.ErrFrame)
			wantPiece(t, summed(block[:min(n, 27)]), api.Piece{}, api.ErrFrame)
		}
		for _, more := range []string{"\x00", "x", "\x00\x00\x00\x00", block} {
			wantPiece(t, block+more, api.Piece{}, api.ErrFrame)
			wantPiece(t, more+block, api.Piece{}, api.ErrFrame)
			wantPiece(t, summed(block[:28]+more), api.Piece{}, api.ErrFrame)
		}
	}
	for _, n := range []int{0, 1, 4, 5, 31, 33, 64, 1 << 16, 1 << 20} {
		for _, text := range texts(n) {
			wantPiece(t, text, api.Piece{}, api.ErrFrame)
		}
	}
}

// P6.1, P10: any 32 bytes: what is taken is the block of what it is.
func TestAnyBytes(t *testing.T) {
	chance := rand.New(rand.NewSource(62))
	taken := 0
	for range 60000 {
		room := make([]byte, 28)
		if chance.Intn(3) == 0 {
			chance.Read(room)
		}
		room[0], room[1], room[2] = byte(chance.Intn(2)), byte(chance.Intn(3)), byte(chance.Intn(4))
		room[3], room[4] = byte(chance.Intn(5)), byte(chance.Intn(25))
		text := summed(string(room))
		p, e := frame.Unblock(text)
		if e != api.OK {
			wantPiece(t, text, api.Piece{}, api.ErrFrame)
			continue
		}
		taken++
		if !isRight(p) {
			t.Fatalf("Unblock(%x) answers the piece %+v", text, p)
		}
		wantBlock(t, p, text, api.OK)
	}
	if taken < 100 {
		t.Errorf("only %d were taken", taken)
	}
}

// payloadSizes are the lengths at the edges of pieces and of frames.
func payloadSizes() []int {
	return []int{0, 1, 2, 22, 23, 24, 45, 46, 47, 68, 69, 70, 1000, 5842, 5843, 5864, 5865}
}

// P6.2, P10: payloads at the edges: their blocks, piece by piece, and number and payload again.
func TestFrames(t *testing.T) {
	for _, n := range payloadSizes() {
		for _, payload := range texts(n) {
			for _, seq := range []int{1, 2, 256, 65535} {
				wantThereAndBack(t, seq, payload)
			}
		}
	}
}

// wantThereAndBack holds a frame against the one that is made byte by byte, and makes it the payload again by Unblock and Whole.
func wantThereAndBack(t *testing.T, seq int, payload string) {
	t.Helper()
	var want []string
	for _, p := range framed(seq, payload) {
		want = append(want, blockOf(p))
	}
	wantBlocks(t, seq, payload, want, api.OK)
	if len(want) != frame.Parts(len(payload)) {
		t.Fatalf("%d blocks of %d bytes, Parts says %d", len(want), len(payload), frame.Parts(len(payload)))
	}
	var pieces []api.Piece
	for _, block := range want {
		p, e := frame.Unblock(block)
		if e != api.OK {
			t.Fatalf("Unblock = %d", e)
		}
		pieces = append(pieces, p)
	}
	wantWhole(t, pieces, seq, payload, api.OK)
}

// P6.2: a payload of every length up to some, and of drawn ones.
func TestEveryLength(t *testing.T) {
	chance := rand.New(rand.NewSource(63))
	long := texts(5865)[4]
	for n := range 300 {
		wantThereAndBack(t, 1+chance.Intn(65535), long[n:n+n])
	}
	for range 100 {
		wantThereAndBack(t, 1+chance.Intn(65535), long[:chance.Intn(5866)])
	}
}

// P6.2, R2: numbers that are none, payloads that are too long, and both: the number is named first.
func TestPackRefused(t *testing.T) {
	for _, seq := range []int{0, -1, -2, -65535, math.MinInt, math.MinInt32, 65536, 65537, 1 << 32, 1<<32 + 7, -1<<32 + 7, math.MaxInt} {
		for _, n := range []int{0, 1, 23, 24, 5865, 5866, 70000} {
			wantBlocks(t, seq, strings.Repeat("x", n), nil, api.ErrFrame)
		}
	}
	for _, n := range []int{5866, 5867, 5887, 5888, 5889, 11730, 65535, 65536, 65541, 1 << 20} {
		for _, seq := range []int{1, 7, 65535} {
			wantBlocks(t, seq, strings.Repeat("x", n), nil, api.ErrLong)
		}
	}
}

// P6.2: a single piece that isn't right, though it is the only one, makes no frame.
func TestWholeWrongPieces(t *testing.T) {
	for _, p := range []api.Piece{
		{}, {Seq: 1}, {Parts: 1}, {Seq: -1, Parts: 1}, {Seq: 65536, Parts: 1}, {Seq: 1<<32 + 1, Parts: 1}, {Seq: math.MinInt, Parts: 1}, {Seq: math.MaxInt, Parts: 1},
		{Seq: 1, Part: -1, Parts: 1}, {Seq: 1, Part: 1, Parts: 1}, {Seq: 1, Part: 256, Parts: 1}, {Seq: 1, Parts: 0}, {Seq: 1, Parts: 2, Data: strings.Repeat("d", 23)},
		{Seq: 1, Parts: 257}, {Seq: 1, Parts: -1}, {Seq: 1, Parts: math.MaxInt}, {Seq: 1, Parts: 1<<32 + 1}, {Seq: 1, Part: 1, Parts: 2, Data: "d"},
		{Seq: 1, Parts: 1, Data: strings.Repeat("d", 24)}, {Seq: 1, Parts: 1, Data: strings.Repeat("d", 5866)},
	} {
		wantNotWhole(t, []api.Piece{p})
	}
}

// changes are all the ways in which one piece is made another one.
func changes(p api.Piece) []api.Piece {
	list := []api.Piece{{}, {Seq: p.Seq, Part: p.Part, Parts: p.Parts, Data: p.Data + "more"}, {Seq: p.Seq, Part: p.Part, Parts: p.Parts, Data: strings.Repeat("d", 24)}}
	for _, by := range []int{1, -1, 256, 65536, 1 << 32, -1 << 32, math.MinInt} {
		a, b, c := p, p, p
		a.Seq += by
		b.Part += by
		c.Parts += by
		list = append(list, a, b, c)
	}
	for n := range p.Data {
		list = append(list, api.Piece{Seq: p.Seq, Part: p.Part, Parts: p.Parts, Data: p.Data[:n]})
	}
	return list
}

// isFrame says of a list whether it is a frame: the one of its first piece's number and of all its data has to be the same.
func isFrame(list []api.Piece) (int, string, bool) {
	if len(list) == 0 {
		return 0, "", false
	}
	payload := ""
	for _, p := range list {
		payload += p.Data
	}
	seq := list[0].Seq
	if seq < 1 || seq > 65535 || len(payload) > 5865 || !slices.Equal(framed(seq, payload), list) {
		return 0, "", false
	}
	return seq, payload, true
}

// wantAsFrame holds Whole against isFrame.
func wantAsFrame(t *testing.T, list []api.Piece) bool {
	t.Helper()
	seq, payload, ok := isFrame(list)
	if !ok {
		wantNotWhole(t, list)
		return false
	}
	wantWhole(t, list, seq, payload, api.OK)
	return true
}

// P6.2: frames in which one piece is changed in one way: a piece ahead of the last with fewer bytes, an empty last one, other numbers.
func TestWholeChanged(t *testing.T) {
	for _, n := range []int{0, 1, 23, 24, 46, 47, 100, 5864, 5865} {
		pieces := framed(65, strings.Repeat("w", n))
		for _, at := range []int{0, len(pieces) / 2, len(pieces) - 1} {
			for _, p := range changes(pieces[at]) {
				list := slices.Clone(pieces)
				list[at] = p
				wantAsFrame(t, list)
			}
		}
	}
	two := framed(65, strings.Repeat("w", 46))
	two[1].Data = ""
	wantNotWhole(t, two)
	two = framed(65, strings.Repeat("w", 46))
	two[0].Data = two[0].Data[:22]
	wantNotWhole(t, two)
}

// P6.2, R1: lists of more pieces than a frame has, with numbers that would fit.
func TestWholeTooMany(t *testing.T) {
	for _, n := range []int{256, 257, 511, 65536, 65537} {
		var list []api.Piece
		for part := range n {
			list = append(list, api.Piece{Seq: 1, Part: part, Parts: n, Data: strings.Repeat("d", 23)})
		}
		wantNotWhole(t, list)
		for i := range list {
			list[i].Part, list[i].Parts = i%256, n%256
		}
		wantNotWhole(t, list)
	}
}

// P6.2: drawn lists of few pieces, right and wrong ones.
func TestDrawnLists(t *testing.T) {
	chance := rand.New(rand.NewSource(64))
	whole := 0
	for range 30000 {
		list := framed(1+chance.Intn(3), strings.Repeat("l", chance.Intn(90)))
		for range chance.Intn(3) {
			at := chance.Intn(len(list))
			ways := changes(list[at])
			list[at] = ways[chance.Intn(len(ways))]
		}
		if wantAsFrame(t, list) {
			whole++
		}
	}
	if whole < 5000 || whole == 30000 {
		t.Errorf("%d of the drawn lists were whole", whole)
	}
}

// spoilt is the text with these bytes changed from that place on.
func spoilt(text string, at int, by ...byte) string {
	room := []byte(text)
	for i, b := range by {
		room[at+i] ^= b
	}
	return string(room)
}

// spoilers are right blocks: of full and of part-filled pieces, at the edges.
func spoilers() []string {
	var list []string
	for _, p := range []api.Piece{
		{Seq: 1, Parts: 1}, {Seq: 1, Parts: 1, Data: "ab"}, {Seq: 65535, Parts: 1, Data: texts(23)[4]}, {Seq: 256, Parts: 255, Data: texts(23)[2]},
		{Seq: 300, Part: 254, Parts: 255, Data: "\x00"}, {Seq: 4660, Part: 7, Parts: 9, Data: texts(23)[0]}, {Seq: 2, Part: 2, Parts: 3, Data: texts(22)[1]},
	} {
		list = append(list, blockOf(p))
	}
	return list
}

// P6.3: one byte of the first 28 changed in every way, and two to four neighbouring ones in drawn ways, under the old sum.
func TestSpoiltBytes(t *testing.T) {
	chance := rand.New(rand.NewSource(65))
	for _, block := range spoilers() {
		for at := range 28 {
			for b := 1; b < 256; b++ {
				wantPiece(t, spoilt(block, at, byte(b)), api.Piece{}, api.ErrFrame)
			}
			for width := 2; width <= 4 && at+width <= 28; width++ {
				for range 60 {
					by := make([]byte, width)
					chance.Read(by)
					by[0] |= 1 << chance.Intn(8)
					wantPiece(t, spoilt(block, at, by...), api.Piece{}, api.ErrFrame)
				}
			}
		}
	}
}

// P6.3: the bits changed make another right piece's first 28 bytes: the sum alone tells.
func TestSpoiltToRightPieces(t *testing.T) {
	chance := rand.New(rand.NewSource(66))
	full := strings.Repeat("s", 23)
	block := blockOf(api.Piece{Seq: 256, Part: 3, Parts: 9, Data: full})
	for range 4000 {
		other := api.Piece{Seq: 1 + chance.Intn(65535), Part: chance.Intn(9), Parts: 9 + chance.Intn(200), Data: full}
		if other.Part == 8 {
			other.Parts++
		}
		if head := blockOf(other)[:28]; head != block[:28] {
			wantPiece(t, head+block[28:], api.Piece{}, api.ErrFrame)
		}
		at := chance.Intn(20)
		room := []byte(full)
		chance.Read(room[at : at+4])
		if string(room) != full {
			wantPiece(t, block[:5]+string(room)+block[28:], api.Piece{}, api.ErrFrame)
		}
	}
}

// P6.3: the last four bytes alone changed: one bit, one byte in every way, all of them in drawn ways, and the sum turned about.
func TestSpoiltSums(t *testing.T) {
	chance := rand.New(rand.NewSource(67))
	for _, block := range spoilers() {
		for at := 28; at < 32; at++ {
			for b := 1; b < 256; b++ {
				wantPiece(t, spoilt(block, at, byte(b)), api.Piece{}, api.ErrFrame)
			}
		}
		for range 2000 {
			by := make([]byte, 4)
			chance.Read(by)
			if string(by) != "\x00\x00\x00\x00" {
				wantPiece(t, spoilt(block, 28, by...), api.Piece{}, api.ErrFrame)
			}
		}
		turned := []byte(block[28:])
		slices.Reverse(turned)
		if string(turned) != block[28:] {
			wantPiece(t, block[:28]+string(turned), api.Piece{}, api.ErrFrame)
		}
		wantPiece(t, block[:28]+"\x00\x00\x00\x00", api.Piece{}, api.ErrFrame)
		wantPiece(t, spoilt(block, 28, 0xff, 0xff, 0xff, 0xff), api.Piece{}, api.ErrFrame)
	}
}

// manyPieces are frames of more than one piece; the data of some is the same in all pieces.
func manyPieces() [][]api.Piece {
	var list [][]api.Piece
	for _, n := range []int{24, 45, 46, 47, 69, 100, 230, 1000, 5843, 5865} {
		list = append(list, framed(n, texts(n)[2]), framed(1+n%3, texts(n)[4]))
	}
	return list
}

// few are places of a list at its ends and between; all of them in a short list.
func few(n int) []int {
	if n <= 12 {
		n = max(n, 0)
		list := make([]int, n)
		for i := range list {
			list[i] = i
		}
		return list
	}
	return []int{0, 1, 2, n / 2, n - 3, n - 2, n - 1}
}

// P6.4: one piece taken out, wherever it stood, or several at an end.
func TestTakenOut(t *testing.T) {
	for _, pieces := range manyPieces() {
		wantWhole(t, pieces, pieces[0].Seq, payloadOf(pieces), api.OK)
		for at := range pieces {
			wantNotWhole(t, slices.Delete(slices.Clone(pieces), at, at+1))
		}
		for _, n := range few(len(pieces)) {
			wantNotWhole(t, pieces[:n])
			if n > 0 {
				wantNotWhole(t, pieces[n:])
			}
		}
	}
}

func payloadOf(pieces []api.Piece) string {
	var text strings.Builder
	for _, p := range pieces {
		text.WriteString(p.Data)
	}
	return text.String()
}

// P6.4: one piece put in twice, at any place, and the frame twice.
func TestTwice(t *testing.T) {
	for _, pieces := range manyPieces() {
		for _, which := range few(len(pieces)) {
			for _, at := range few(len(pieces) + 1) {
				wantNotWhole(t, slices.Insert(slices.Clone(pieces), at, pieces[which]))
			}
			for _, at := range few(len(pieces)) {
				if at != which {
					list := slices.Clone(pieces)
					list[at] = pieces[which]
					wantNotWhole(t, list)
				}
			}
		}
		wantNotWhole(t, slices.Concat(pieces, pieces))
	}
	one := framed(4, "one")
	wantNotWhole(t, slices.Concat(one, one))
}

// P6.4: two pieces exchanged, neighbours and others, and all turned about.
func TestExchanged(t *testing.T) {
	for _, pieces := range manyPieces() {
		for _, i := range few(len(pieces)) {
			for _, j := range few(len(pieces)) {
				if i != j {
					list := slices.Clone(pieces)
					list[i], list[j] = list[j], list[i]
					wantNotWhole(t, list)
				}
			}
		}
		turned := slices.Clone(pieces)
		slices.Reverse(turned)
		wantNotWhole(t, turned)
		wantNotWhole(t, slices.Concat(pieces[1:], pieces[:1]))
	}
}

// P6.2, P6.4: pieces of two frames: of two numbers with one length, one behind the other, and of one number with two lengths.
func TestMixed(t *testing.T) {
	for _, n := range []int{24, 46, 69, 230, 5865} {
		one, two := framed(7, texts(n)[2]), framed(8, texts(n)[4])
		for _, at := range few(len(one)) {
			list := slices.Clone(one)
			list[at] = two[at]
			wantNotWhole(t, list)
			wantNotWhole(t, slices.Insert(slices.Clone(one), at, two[at]))
			if at > 0 {
				wantNotWhole(t, slices.Concat(one[:at], two[at:]))
			}
		}
		wantNotWhole(t, slices.Concat(one, two))
		longer := framed(7, texts(n + 23)[2][:min(n+23, 5865)])
		if len(longer) == len(one) {
			continue
		}
		for _, at := range few(len(one)) {
			list := slices.Clone(one)
			list[at] = longer[at]
			wantNotWhole(t, list)
			wantNotWhole(t, slices.Concat(one[:at], longer[at:len(one)]))
		}
	}
}

// P6.2: pieces of two frames of one number and one length are the frame of another payload.
func TestMixedToAnother(t *testing.T) {
	one, two := framed(7, strings.Repeat("a", 60)), framed(7, strings.Repeat("b", 60))
	wantWhole(t, []api.Piece{one[0], two[1], one[2]}, 7, strings.Repeat("a", 23)+strings.Repeat("b", 23)+strings.Repeat("a", 14), api.OK)
}

// R5: the blocks that are answered are memory of their own, spare room too.
func TestBlocksApart(t *testing.T) {
	for _, n := range payloadSizes() {
		payload := texts(n)[4]
		first, _ := frame.Pack(5, payload)
		kept := slices.Clone(first)
		second, _ := frame.Pack(5, payload)
		room := second[:cap(second)]
		for i := range room {
			room[i] = "changed"
		}
		if !slices.Equal(first, kept) {
			t.Fatalf("a frame of %d bytes has changed with another one", n)
		}
		wantBlocks(t, 5, payload, kept, api.OK)
	}
}

// R5: a list of pieces that is handed in stays, spare room too, and isn't kept.
func TestListHandedIn(t *testing.T) {
	room := append(framed(5, strings.Repeat("r", 50)), api.Piece{Seq: 9, Data: "spare"}, api.Piece{Data: "more"})
	kept := slices.Clone(room)
	for n := range len(room) + 1 {
		frame.Whole(room[:n])
		if !slices.Equal(room, kept) {
			t.Fatalf("Whole of the first %d has changed the list", n)
		}
	}
	seq, payload, e := frame.Whole(room[:3])
	for i := range room {
		room[i] = api.Piece{Seq: 1, Data: "changed"}
	}
	if seq != 5 || payload != strings.Repeat("r", 50) || e != api.OK {
		t.Errorf("Whole = %d, %q, %d", seq, payload, e)
	}
	wantWhole(t, kept[:3], 5, strings.Repeat("r", 50), api.OK)
}

// R6: an answer hangs on nothing that was asked before.
func TestAnswersAgain(t *testing.T) {
	p := api.Piece{Seq: 11, Part: 1, Parts: 2, Data: "again"}
	for range 3 {
		wantBlock(t, p, blockOf(p), api.OK)
		wantBlock(t, api.Piece{}, "", api.ErrFrame)
		wantPiece(t, blockOf(p), p, api.OK)
		wantPiece(t, "", api.Piece{}, api.ErrFrame)
		wantThereAndBack(t, 12, "again")
		wantNotWhole(t, []api.Piece{p})
	}
}
