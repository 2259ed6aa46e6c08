package journal_test

import (
	"encoding/binary"
	"fmt"
	"hash/crc32"
	"math/rand"
	"slices"
	"strings"
	"testing"

	"coterie/api"
	"coterie/disk"
	"coterie/journal"
)

// blockOf is a block another way: out of any numbers, with the library's own sum.
func blockOf(seq, part, parts int, data string) string {
	room := make([]byte, 28)
	binary.BigEndian.PutUint16(room, uint16(seq))
	room[2], room[3], room[4] = byte(part), byte(parts), byte(len(data))
	copy(room[5:], data)
	return string(binary.BigEndian.AppendUint32(room, crc32.ChecksumIEEE(room)))
}

// framed are the blocks of a frame another way.
func framed(seq int, payload string) []string {
	data := []string{""}
	for i := range len(payload) {
		if i > 0 && i%23 == 0 {
			data = append(data, "")
		}
		data[len(data)-1] += payload[i : i+1]
	}
	var blocks []string
	for part, text := range data {
		blocks = append(blocks, blockOf(seq, part, len(data), text))
	}
	return blocks
}

// laid are the blocks of these payloads' records.
func laid(payloads []string) []string {
	var image []string
	for i, payload := range payloads {
		image = append(image, framed(i+1, payload)...)
	}
	return image
}

// scanned is what Scan has to answer, found another way: the payload that the blocks seem to have is framed again, and held against them.
func scanned(image []string) ([]string, int) {
	var payloads []string
	at := 0
	for seq := 1; seq <= 65535 && at < len(image) && len(image[at]) == 32; seq++ {
		parts := int(image[at][3])
		if parts == 0 || at+parts > len(image) {
			break
		}
		payload := ""
		for _, text := range image[at : at+parts] {
			if len(text) > 5 {
				payload += text[5:min(len(text), 5+int(text[4]))]
			}
		}
		if len(payload) > 5865 || !slices.Equal(framed(seq, payload), image[at:at+parts]) {
			break
		}
		payloads = append(payloads, payload)
		at += parts
	}
	return payloads, at
}

// trimmed is the image without the empty blocks at its end, as a disk shows it.
func trimmed(image []string) []string {
	for len(image) > 0 && image[len(image)-1] == "" {
		image = image[:len(image)-1]
	}
	return image
}

func sized(n int) string { return strings.Repeat("x", n) }

// drawn is a payload of so many bytes, of any kind.
func drawn(chance *rand.Rand, n int) string {
	room := make([]byte, n)
	chance.Read(room)
	return string(room)
}

func wantScan(t *testing.T, image, payloads []string, end int) {
	t.Helper()
	before := slices.Clone(image)
	got, n := journal.Scan(image)
	if !slices.Equal(got, payloads) || n != end {
		t.Fatalf("Scan of %d blocks: %d payloads %.60q, end %d; want %d %.60q, end %d", len(image), len(got), got, n, len(payloads), payloads, end)
	}
	if !slices.Equal(image, before) {
		t.Fatal("Scan has changed the blocks")
	}
}

// wantModel holds Scan against the other way, and says how many records there were.
func wantModel(t *testing.T, image []string) int {
	t.Helper()
	payloads, end := scanned(image)
	wantScan(t, image, payloads, end)
	return len(payloads)
}

func from(t *testing.T, image []string) *disk.Disk {
	t.Helper()
	d, e := disk.From(image)
	if e != api.OK {
		t.Fatalf("From of %d blocks: %d", len(image), e)
	}
	return d
}

func opened(t *testing.T, d *disk.Disk, want []string) *journal.Journal {
	t.Helper()
	j, got, e := journal.Open(d)
	if e != api.OK || j == nil || !slices.Equal(got, want) {
		t.Fatalf("Open: %d payloads %.60q, %d; want %d %.60q", len(got), got, e, len(want), want)
	}
	wantStands(t, j, len(want), len(laid(want)))
	wantImage(t, d, laid(want))
	return j
}

func wantDown(t *testing.T, d *disk.Disk) {
	t.Helper()
	if j, got, e := journal.Open(d); j != nil || len(got) != 0 || e != api.ErrDown {
		t.Fatalf("Open: %v, %.60q, %d; want nil, none, ErrDown", j, got, e)
	}
}

func wantAppend(t *testing.T, j *journal.Journal, payload string, want api.Errno) {
	t.Helper()
	if e := j.Append(payload); e != want {
		t.Fatalf("Append of %d bytes at the end %d: %d, want %d", len(payload), j.End(), e, want)
	}
}

func wantStands(t *testing.T, j *journal.Journal, count, end int) {
	t.Helper()
	if j.Count() != count || j.End() != end {
		t.Fatalf("Count %d, End %d; want %d, %d", j.Count(), j.End(), count, end)
	}
}

func wantImage(t *testing.T, d *disk.Disk, want []string) {
	t.Helper()
	if got := d.Image(); !slices.Equal(got, trimmed(want)) {
		t.Fatalf("an image of %d blocks, other than the %d that are due", len(got), len(trimmed(want)))
	}
}

func wantWrites(t *testing.T, d *disk.Disk, want []api.Write) {
	t.Helper()
	if got := d.Writes(); !slices.Equal(got, want) {
		t.Fatalf("%d writes, or others than the %d that are due", len(got), len(want))
	}
}

// P7.1, P7.2: the chapter's examples.
func TestExamples(t *testing.T) {
	d := disk.New()
	j := opened(t, d, nil)
	wantAppend(t, j, "a", api.OK)
	wantAppend(t, j, sized(30), api.OK)
	wantStands(t, j, 2, 3)
	opened(t, d, []string{"a", sized(30)})
	for n, found := range map[int][]string{1: {"a"}, 2: {"a", sized(30)}} {
		d := disk.New()
		j := opened(t, d, nil)
		wantAppend(t, j, "a", api.OK)
		d.Up(n)
		wantAppend(t, j, sized(30), api.ErrDown)
		d.Up(-1)
		wantStands(t, opened(t, d, found), len(found), 2*len(found)-1)
		if wiped := len(d.Writes()) - 1 - n; wiped != 2-n {
			t.Errorf("%d blocks wiped, want %d", wiped, 2-n)
		}
	}
	wantScan(t, framed(2, "a"), nil, 0)
	for blocks, want := range map[int]api.Errno{2: api.ErrDown, 1: api.ErrDown, 0: api.OK} {
		d := from(t, slices.Repeat([]string{"junk"}, blocks))
		d.Up(1)
		if _, _, e := journal.Open(d); e != want {
			t.Errorf("Open with Up(1) and %d to be wiped: %d, want %d", blocks, e, want)
		}
	}
}

// P7.1, R4: no blocks, and blocks without a record.
func TestScanNothing(t *testing.T) {
	wantScan(t, nil, nil, 0)
	wantScan(t, []string{}, nil, 0)
	for _, text := range []string{"", "x", "\x00", sized(31), sized(32), sized(33), sized(1 << 20), strings.Repeat("\x00", 32), strings.Repeat("\xff", 32)} {
		for _, n := range []int{1, 2, 300, 3000} {
			wantScan(t, slices.Repeat([]string{text}, n), nil, 0)
			if n < 300 {
				wantScan(t, append(slices.Repeat([]string{text}, n), laid([]string{"a", "b"})...), nil, 0)
			}
		}
	}
}

// P7.1: payloads at the edges of pieces and of frames, alone and one behind the other, with and without something behind them.
func TestScanPayloads(t *testing.T) {
	chance := rand.New(rand.NewSource(71))
	var all []string
	for _, n := range []int{0, 1, 22, 23, 24, 45, 46, 47, 1000, 5842, 5843, 5864, 5865, 0, 23, 24, 5865} {
		payload := drawn(chance, n)
		all = append(all, payload)
		for _, list := range [][]string{{payload}, {payload, payload}, {"", payload, ""}, all} {
			image := laid(list)
			end := len(image)
			wantScan(t, image, list, end)
			wantScan(t, append(slices.Clone(image), "", "", ""), list, end)
			wantScan(t, append(slices.Clone(image), "", image[0]), list, end)
			wantScan(t, append(slices.Clone(image), image...), list, end)
			wantScan(t, append(slices.Clone(image), sized(100)), list, end)
		}
	}
}

// P7.1: the number that is due at the front is 1, and behind a record the next one.
func TestScanNumbers(t *testing.T) {
	for _, seq := range []int{0, 2, 3, 255, 256, 257, 65535, 65536} {
		wantScan(t, framed(seq, "a"), nil, 0)
		wantScan(t, framed(seq, sized(30)), nil, 0)
	}
	first := laid([]string{"a", sized(30)})
	for _, seq := range []int{0, 1, 2, 4, 5, 259, 65535} {
		wantScan(t, append(slices.Clone(first), framed(seq, sized(50))...), []string{"a", sized(30)}, 3)
	}
	for _, seq := range []int{0, 2, 3, 258} {
		image := append(framed(seq, "z"), framed(1, "a")...)
		wantScan(t, image, nil, 0)
	}
}

// P7.1: blocks beyond a disk's places count like others, up to the number 65535.
func TestScanManyBlocks(t *testing.T) {
	for _, n := range []int{2046, 2047, 2048, 2049, 3000} {
		list := slices.Repeat([]string{"q"}, n)
		image := laid(list)
		wantScan(t, image, list, n)
		wantScan(t, append(image, sized(50)), list, n)
	}
	long := slices.Repeat([]string{sized(5865)}, 9) // 2295 blocks
	wantScan(t, laid(long), long, 2295)
	wantScan(t, append(laid(long)[:2294], ""), long[:8], 2040)

	most := slices.Repeat([]string{""}, 65535)
	image := laid(most)
	wantScan(t, image[:65534], most[:65534], 65534)
	wantScan(t, image, most, 65535)
	for _, seq := range []int{0, 1, 65535} {
		wantScan(t, append(slices.Clone(image), framed(seq, "z")...), most, 65535)
	}
	wantScan(t, append(slices.Clone(image), image...), most, 65535)
}

// P7.1: a frame of which one block lacks, is spoilt, stands twice, or has changed places: the records end ahead of it.
func TestScanSpoiltFrame(t *testing.T) {
	ahead := []string{"first", sized(24)}
	base := laid(ahead)
	for _, n := range []int{0, 23, 24, 60, 92, 5865} {
		this := framed(3, strings.Repeat("0123456", n)[:n])
		behind := framed(4, "behind")
		join := func(blocks ...string) []string {
			return slices.Concat(base, blocks, behind)
		}
		wantScan(t, join(this...), []string{"first", sized(24), strings.Repeat("0123456", n)[:n], "behind"}, 3+len(this)+1)
		for i := range this {
			lacks := slices.Delete(slices.Clone(this), i, i+1)
			wantScan(t, join(lacks...), ahead, 3)
			wantScan(t, join(slices.Insert(lacks, i, "")...), ahead, 3)
			spoilt := slices.Clone(this)
			spoilt[i] = spoilt[i][:31] + string([]byte{spoilt[i][31] ^ 1})
			wantScan(t, join(spoilt...), ahead, 3)
			spoilt[i] = this[i] + "\x00"
			wantScan(t, join(spoilt...), ahead, 3)
			if n > 23 {
				wantScan(t, join(slices.Insert(slices.Clone(this), i, this[i])...), twice(ahead, this, i), 3+twiceEnd(this, i))
			}
			if i > 0 {
				swapped := slices.Clone(this)
				swapped[0], swapped[i] = swapped[i], swapped[0]
				wantScan(t, join(swapped...), ahead, 3)
			}
			wantScan(t, slices.Concat(base, this[:i]), ahead, 3)
		}
	}
}

// twice are the payloads where the block i of the frame stands twice: with the last one twice, the frame stands whole ahead of the second.
func twice(ahead, this []string, i int) []string {
	if i < len(this)-1 {
		return ahead
	}
	payloads, _ := scanned(slices.Concat(laid(ahead), this))
	return payloads
}

func twiceEnd(this []string, i int) int {
	if i < len(this)-1 {
		return 0
	}
	return len(this)
}

// P7.1: every bit of a frame's blocks that is turned makes it none.
func TestScanEveryBit(t *testing.T) {
	image := laid([]string{"a", sized(40), "c"})
	for at, text := range image {
		for bit := range 8 * 32 {
			room := []byte(text)
			room[bit/8] ^= 1 << (bit % 8)
			turned := slices.Clone(image)
			turned[at] = string(room)
			want := []string{"a", sized(40)}[:min(at, 1)]
			end := min(at, 1)
			if at == 3 {
				want, end = []string{"a", sized(40)}, 3
			}
			wantScan(t, turned, want, end)
		}
	}
}

// P7.1: blocks of two frames mixed: of other numbers or lengths they make none; of one number and length they are the frame of what they hold.
func TestScanMixed(t *testing.T) {
	a, b, c := strings.Repeat("a", 60), strings.Repeat("b", 60), strings.Repeat("c", 80)
	one, other, two, longer := framed(1, a), framed(1, b), framed(2, b), framed(1, c)
	for i := range 3 {
		mixed := slices.Clone(one)
		mixed[i] = two[i]
		wantScan(t, mixed, nil, 0)
		mixed[i] = longer[i]
		wantScan(t, append(mixed, longer[3]), nil, 0)
		mixed[i] = other[i]
		held := a[:23*i] + b[23*i:min(23*i+23, 60)] + a[min(23*i+23, 60):]
		wantScan(t, mixed, []string{held}, 3)
	}
	wantScan(t, []string{one[0], two[0], one[1], two[1], one[2], two[2]}, nil, 0)
	wantScan(t, slices.Concat(one, two[:2], one[2:]), []string{a}, 3)
	wantScan(t, slices.Concat(two, one), nil, 0)
}

// P7.1: drawn blocks: frames with few faults of all kinds, against the other way.
func TestScanDrawn(t *testing.T) {
	chance := rand.New(rand.NewSource(72))
	found := make([]int, 12)
	for range 4000 {
		var image []string
		for i := range chance.Intn(11) {
			seq := i + 1
			if chance.Intn(12) == 0 {
				seq = chance.Intn(5)
			}
			image = append(image, framed(seq, drawn(chance, chance.Intn(80)))...)
		}
		for len(image) > 0 && chance.Intn(2) == 0 {
			spoil(chance, image)
		}
		found[wantModel(t, image[:len(image)-min(len(image), chance.Intn(3))])]++
	}
	for n := range 6 {
		if found[n] < 20 {
			t.Errorf("only %d images of %d records were drawn", found[n], n)
		}
	}
}

// spoil does one drawn thing to the blocks.
func spoil(chance *rand.Rand, image []string) {
	at, other := chance.Intn(len(image)), chance.Intn(len(image))
	switch chance.Intn(6) {
	case 0:
		image[at] = ""
	case 1:
		image[at] = drawn(chance, chance.Intn(70))
	case 2:
		image[at], image[other] = image[other], image[at]
	case 3:
		image[at] = image[other]
	case 4:
		image[at] = blockOf(chance.Intn(4), chance.Intn(4), chance.Intn(4), sized(chance.Intn(24)))
	case 5:
		image[at] += "\x00"
	}
}

// P7.2: what an Append writes, and where; what an Open of a clean disk doesn't write.
func TestAppendWrites(t *testing.T) {
	chance := rand.New(rand.NewSource(73))
	d := disk.New()
	j := opened(t, d, nil)
	wantWrites(t, d, nil)
	var list []string
	var due []api.Write
	for _, n := range []int{0, 1, 22, 23, 24, 46, 47, 0, 5864, 5865, 1000, 0} {
		payload := drawn(chance, n)
		for _, block := range framed(len(list)+1, payload) {
			due = append(due, api.Write{At: len(due), Text: block})
		}
		list = append(list, payload)
		wantAppend(t, j, payload, api.OK)
		wantStands(t, j, len(list), len(due))
		wantWrites(t, d, due)
		opened(t, d, list)
		wantWrites(t, d, due)
	}
}

// P7.2: a journal that was opened with records goes on behind them.
func TestAppendBehindOpened(t *testing.T) {
	list := []string{"a", "", sized(100)}
	d := from(t, laid(list))
	j := opened(t, d, list)
	wantAppend(t, j, sized(47), api.OK)
	wantStands(t, j, 4, 10)
	var due []api.Write
	for i, block := range framed(4, sized(47)) {
		due = append(due, api.Write{At: 7 + i, Text: block})
	}
	wantWrites(t, d, due)
	opened(t, d, append(list, sized(47)))
}

// P7.2, R3: a payload that is too long is refused, nothing is changed by it, and the journal goes on; ErrLong comes ahead of ErrFull.
func TestTooLong(t *testing.T) {
	d := disk.New()
	j := opened(t, d, nil)
	for _, n := range []int{5866, 5867, 5888, 65536, 65537, 1 << 20} {
		wantAppend(t, j, sized(n), api.ErrLong)
		wantStands(t, j, 0, 0)
		wantWrites(t, d, nil)
	}
	wantAppend(t, j, sized(5865), api.OK)
	wantAppend(t, j, sized(5866), api.ErrLong)
	wantStands(t, j, 1, 255)
	opened(t, d, []string{sized(5865)})

	full := from(t, laid(slices.Repeat([]string{""}, 2048)))
	wantAppend(t, opened(t, full, slices.Repeat([]string{""}, 2048)), sized(5866), api.ErrLong)
}

// P7.2, R3: frames that just fit and frames that don't, at ends near the last place; behind a refusal a shorter one still goes in.
func TestFull(t *testing.T) {
	for _, room := range []int{0, 1, 2, 3, 100, 253, 254, 255, 256} {
		list := slices.Repeat([]string{"e"}, 2048-room)
		image := laid(list)
		for _, parts := range []int{1, 2, 3, 4, 100, 101, 254, 255} {
			d := from(t, image)
			j := opened(t, d, list)
			least, most := 23*(parts-1)+1, 23*parts
			if parts == 1 {
				least = 0
			}
			payload := sized(most)
			if parts <= room {
				wantAppend(t, j, payload, api.OK)
				wantStands(t, j, len(list)+1, 2048-room+parts)
				opened(t, d, append(slices.Clone(list), payload))
				continue
			}
			wantAppend(t, j, sized(least), api.ErrFull)
			wantAppend(t, j, payload, api.ErrFull)
			wantStands(t, j, len(list), 2048-room)
			wantWrites(t, d, nil)
			if room > 0 {
				wantAppend(t, j, sized(23*room), api.OK)
				wantStands(t, j, len(list)+1, 2048)
			}
		}
	}
}

// P7.2: the end at place 2047, then at 2048; no payload goes in there, and the power that there is isn't used up.
func TestLastPlace(t *testing.T) {
	list := append(slices.Repeat([]string{sized(5865)}, 8), sized(7*23)) // 2047 blocks
	d := from(t, laid(list))
	j := opened(t, d, list)
	wantStands(t, j, 9, 2047)
	wantAppend(t, j, sized(24), api.ErrFull)
	wantAppend(t, j, "last", api.OK)
	wantStands(t, j, 10, 2048)
	d.Up(1)
	for _, payload := range []string{"", "x", sized(5865)} {
		wantAppend(t, j, payload, api.ErrFull)
	}
	wantStands(t, j, 10, 2048)
	if !d.On() {
		t.Error("a refused Append has used up power")
	}
	wantWrites(t, d, []api.Write{{At: 2047, Text: framed(10, "last")[0]}})
	opened(t, d, append(list, "last"))
}

// P7.2: the power is off ahead of an Append: ErrDown, nothing is written, and so for every further Append, whatever the power then.
func TestDownAhead(t *testing.T) {
	for _, payload := range []string{"", "b", sized(100), sized(5866)} {
		d := disk.New()
		j := opened(t, d, nil)
		wantAppend(t, j, "a", api.OK)
		d.Off()
		wantAppend(t, j, payload, api.ErrDown)
		d.Up(-1)
		for _, later := range []string{"", "c", sized(5865), sized(5866)} {
			wantAppend(t, j, later, api.ErrDown)
		}
		wantStands(t, j, 1, 1)
		wantWrites(t, d, []api.Write{{At: 0, Text: framed(1, "a")[0]}})
		again := opened(t, d, []string{"a"})
		wantAppend(t, again, "c", api.OK)
		wantAppend(t, j, "d", api.ErrDown)
		wantStands(t, j, 1, 1)
		opened(t, d, []string{"a", "c"})
	}
	full := slices.Repeat([]string{""}, 2048)
	d := from(t, laid(full))
	j := opened(t, d, full)
	d.Off()
	wantAppend(t, j, "", api.ErrDown)
	d.Up(-1)
	wantAppend(t, j, "", api.ErrDown)
}

// P7.2: power that was off between two Appends, or between two refusals, does no harm by itself.
func TestDownBetween(t *testing.T) {
	d := disk.New()
	j := opened(t, d, nil)
	for i, payload := range []string{"a", sized(50), ""} {
		d.Off()
		d.Up(9)
		wantAppend(t, j, sized(5866), api.ErrLong)
		wantAppend(t, j, payload, api.OK)
		if !d.On() || j.Count() != i+1 {
			t.Fatal("power for more writes than a frame has goes not with it")
		}
	}
	d.Up(-1)
	opened(t, d, []string{"a", sized(50), ""})
}

// P7.2: the power goes with each of a frame's writes, the first, a middle, the last; and stays with one more.
func TestDownWithin(t *testing.T) {
	for _, size := range []int{0, 23, 24, 60, 100, 5865} {
		blocks := framed(2, sized(size))
		for n := 1; n <= len(blocks)+1; n++ {
			d := from(t, laid([]string{"a"}))
			j := opened(t, d, []string{"a"})
			d.Up(n)
			want := api.ErrDown
			if n > len(blocks) {
				want = api.OK
			}
			wantAppend(t, j, sized(size), want)
			written := min(n, len(blocks))
			wantImage(t, d, append(laid([]string{"a"}), blocks[:written]...))
			if len(d.Writes()) != written || d.On() != (want == api.OK) {
				t.Fatalf("%d writes, power %v", len(d.Writes()), d.On())
			}
			if want == api.OK {
				wantStands(t, j, 2, 1+len(blocks))
				continue
			}
			wantStands(t, j, 1, 1)
			d.Up(-1)
			wantAppend(t, j, "", api.ErrDown)
			wantAppend(t, j, sized(5866), api.ErrDown)
			wantStands(t, j, 1, 1)
			if len(d.Writes()) != written {
				t.Fatal("a journal that is of no more use writes")
			}
			found := []string{"a", sized(size)}
			if n < len(blocks) {
				found = found[:1]
			}
			opened(t, d, found)
		}
	}
}

// P7.2, P7.5: what stands behind the end is wiped, from the least place on, and only where there is something.
func TestWipe(t *testing.T) {
	list := []string{"a", sized(30)}
	image := append(laid(list), "", "junk", "", framed(4, "far")[0], framed(3, sized(30))[1], "", "z")
	due := []api.Write{{At: 4}, {At: 6}, {At: 7}, {At: 9}}
	d := from(t, image)
	j := opened(t, d, list)
	wantWrites(t, d, due)
	opened(t, d, list)
	wantWrites(t, d, due)
	wantAppend(t, j, sized(200), api.OK)
	opened(t, d, append(list, sized(200)))

	whole := slices.Repeat([]string{"j"}, 2048)
	d = from(t, whole)
	opened(t, d, nil)
	if w := d.Writes(); len(w) != 2048 || w[0].At != 0 || w[2047].At != 2047 {
		t.Errorf("%d writes", len(w))
	}
}

// P7.2, R3: an Open without power answers ErrDown and nothing else, and the disk stays.
func TestOpenDown(t *testing.T) {
	for _, image := range [][]string{nil, laid([]string{"a"}), {"junk"}, append(laid([]string{"a", sized(40)}), "x", "", "y")} {
		d := from(t, image)
		d.Off()
		wantDown(t, d)
		d.Up(0)
		wantDown(t, d)
		wantImage(t, d, image)
		wantWrites(t, d, nil)
	}
}

// P7.2: an Open with power for fewer writes than are to be wiped, for just as many, for one more.
func TestOpenCut(t *testing.T) {
	list := []string{"a", sized(30)}
	image := append(laid(list), "p", "", "q", "r", "", "s")
	places := []int{3, 5, 6, 8}
	for n := 1; n <= 6; n++ {
		d := from(t, image)
		d.Up(n)
		var due []api.Write
		left := slices.Clone(image)
		for _, at := range places[:min(n, 4)] {
			due = append(due, api.Write{At: at})
			left[at] = ""
		}
		if n > 4 {
			opened(t, d, list)
		} else {
			wantDown(t, d)
			wantDown(t, d)
		}
		wantWrites(t, d, due)
		wantImage(t, d, left)
		if d.On() != (n > 4) {
			t.Errorf("Up(%d): power %v", n, d.On())
		}
		d.Up(-1)
		opened(t, d, list)
		if len(d.Writes()) != 4 {
			t.Errorf("Up(%d): %d writes in all, want 4", n, len(d.Writes()))
		}
	}
	clean := from(t, laid(list))
	clean.Up(1)
	j := opened(t, clean, list)
	if !clean.On() {
		t.Error("an Open that wipes nothing has used up power")
	}
	wantAppend(t, j, "b", api.ErrDown)
}

// world is what a disk with a journal has to be, kept another way.
type world struct {
	blocks     []string // all 2048 places
	writes     []api.Write
	power      int // below 0: without bound
	payloads   []string
	end        int
	live, dead bool
}

// write is one write of the world; false: the power is off, or has gone with it.
func (w *world) write(at int, text string) bool {
	if w.power == 0 {
		return false
	}
	w.blocks[at] = text
	w.writes = append(w.writes, api.Write{At: at, Text: text})
	if w.power > 0 {
		w.power--
	}
	return w.power != 0
}

func (w *world) open() api.Errno {
	w.live = false
	if w.power == 0 {
		return api.ErrDown
	}
	payloads, end := scanned(w.blocks)
	for at, text := range w.blocks {
		if at >= end && text != "" && !w.write(at, "") {
			return api.ErrDown
		}
	}
	w.payloads, w.end, w.live, w.dead = payloads, end, true, false
	return api.OK
}

func (w *world) append(payload string) api.Errno {
	if w.dead || w.power == 0 {
		w.dead = true
		return api.ErrDown
	}
	if len(payload) > 5865 {
		return api.ErrLong
	}
	blocks := framed(len(w.payloads)+1, payload)
	if w.end+len(blocks) > 2048 {
		return api.ErrFull
	}
	for i, text := range blocks {
		if !w.write(w.end+i, text) {
			w.dead = true
			return api.ErrDown
		}
	}
	w.payloads = append(w.payloads, payload)
	w.end += len(blocks)
	return api.OK
}

// P7.2, P7.5: drawn rows of calls on drawn disks, each answer, write and block against the world that is kept beside it.
func TestDrawnRows(t *testing.T) {
	answers := map[string]int{}
	for seed := range 400 {
		chance := rand.New(rand.NewSource(int64(seed)))
		image := drawnImage(chance, seed)
		d := from(t, image)
		w := &world{blocks: make([]string, 2048), power: -1}
		copy(w.blocks, image)
		drawnRow(t, chance, d, w, answers)
	}
	for _, kind := range []string{"open 0", "open 11", "append 0", "append 9", "append 10", "append 11"} {
		if answers[kind] < 50 {
			t.Errorf("%s: only %d times", kind, answers[kind])
		}
	}
}

// drawnImage is a disk's blocks: clean records, records with faults, junk, or nearly full.
func drawnImage(chance *rand.Rand, seed int) []string {
	var list []string
	for range chance.Intn(8) {
		list = append(list, drawn(chance, chance.Intn(70)))
	}
	if seed%4 == 0 {
		list = append(slices.Repeat([]string{""}, 2040-len(laid(list))), list...)
	}
	image := laid(list)
	for range chance.Intn(4) {
		if len(image) > 0 && seed%4 != 0 {
			at := chance.Intn(len(image))
			image[at] = []string{"", "spoilt", image[0]}[chance.Intn(3)]
		}
		image = append(image, []string{"", "behind", sized(32)}[chance.Intn(3)])
	}
	return image
}

func drawnRow(t *testing.T, chance *rand.Rand, d *disk.Disk, w *world, answers map[string]int) {
	t.Helper()
	var j *journal.Journal
	for range 40 {
		if chance.Intn(3) == 0 {
			n := chance.Intn(7) - 1
			d.Up(n)
			w.power = n
		}
		if w.power == 0 && chance.Intn(2) == 0 {
			d.Up(-1)
			w.power = -1
		}
		if !w.live || chance.Intn(6) == 0 {
			got, payloads, e := journal.Open(d)
			if want := w.open(); e != want || (got == nil) != (e != api.OK) || e == api.OK && !slices.Equal(payloads, w.payloads) || e != api.OK && len(payloads) > 0 {
				t.Fatalf("Open: %.60q, %d; want %.60q, %d", payloads, e, w.payloads, want)
			}
			j = got
			answers[fmt.Sprint("open ", int(e))]++
		} else {
			payload := drawn(chance, []int{0, 10, 23, 24, 60, 100, 400, 5866}[chance.Intn(8)])
			e := j.Append(payload)
			if want := w.append(payload); e != want {
				t.Fatalf("Append of %d bytes: %d, want %d", len(payload), e, want)
			}
			answers[fmt.Sprint("append ", int(e))]++
		}
		if w.live {
			wantStands(t, j, len(w.payloads), w.end)
		}
		wantWrites(t, d, w.writes)
		wantImage(t, d, slices.Clone(w.blocks))
		if d.On() != (w.power != 0) {
			t.Fatalf("power %v", d.On())
		}
	}
}

// P7.3: a disk cut behind each number of its writes has just the records that are whole by then; opened again, it is the same.
func TestCuts(t *testing.T) {
	chance := rand.New(rand.NewSource(74))
	rows := [][]int{{}, {0}, {23}, {24}, {0, 0, 0}, {30, 0, 23, 24, 100, 1}, {46, 47, 45, 22}, {0, 5865, 0}, {700, 700, 700}}
	for range 30 {
		var row []int
		for range chance.Intn(9) {
			row = append(row, chance.Intn(90))
		}
		rows = append(rows, row)
	}
	for _, row := range rows {
		d := disk.New()
		j := opened(t, d, nil)
		var list []string
		for _, n := range row {
			list = append(list, drawn(chance, n))
			wantAppend(t, j, list[len(list)-1], api.OK)
		}
		for n := range len(d.Writes()) + 1 {
			whole := 0
			for whole < len(list) && len(laid(list[:whole+1])) <= n {
				whole++
			}
			cut := d.Cut(n)
			opened(t, cut, list[:whole])
			again := cut.Writes()
			opened(t, cut, list[:whole])
			wantWrites(t, cut, again)
			wantCutTwice(t, cut, n, list[:whole])
		}
	}
}

// wantCutTwice cuts the recovered disk within its recovery, and opens what is left.
func wantCutTwice(t *testing.T, recovered *disk.Disk, n int, want []string) {
	t.Helper()
	for m := n; m <= len(recovered.Writes()); m += 1 + (m-n)/3 {
		opened(t, recovered.Cut(m), want)
	}
}

// P7.3: what is appended to a disk that was cut and opened stands behind what was found, whatever stood there before.
func TestAppendBehindCut(t *testing.T) {
	d := disk.New()
	j := opened(t, d, nil)
	list := []string{"one", sized(50), strings.Repeat("y", 50), "four"}
	for _, payload := range list {
		wantAppend(t, j, payload, api.OK)
	}
	for n := range len(d.Writes()) + 1 {
		cut := d.Cut(n)
		k, found, e := journal.Open(cut)
		if e != api.OK {
			t.Fatal(e)
		}
		for _, payload := range []string{"", sized(23), sized(24), sized(90)} {
			wantAppend(t, k, payload, api.OK)
			found = append(found, payload)
			opened(t, cut, found)
		}
	}
}

// P7.4: rows of appends that are cut, each followed by openings that are cut, till one is not.
func TestCutsInRecovery(t *testing.T) {
	cuts, lasts := 0, 0
	for seed := range 300 {
		chance := rand.New(rand.NewSource(int64(seed)))
		d := disk.New()
		j := opened(t, d, nil)
		var list []string
		for range 15 {
			payload := drawn(chance, chance.Intn(120))
			parts := len(framed(1, payload))
			n := chance.Intn(parts+3) - 1
			d.Up(n)
			e := j.Append(payload)
			if whole := n < 0 || n >= parts; whole {
				list = append(list, payload)
			}
			if down := n >= 0 && n <= parts; down != (e == api.ErrDown) {
				t.Fatalf("Append of %d blocks with Up(%d): %d", parts, n, e)
			}
			if e == api.OK {
				continue
			}
			cuts++
			if n == parts {
				lasts++
			}
			j = recovered(t, chance, d, list)
		}
	}
	if cuts < 1000 || lasts < 300 {
		t.Errorf("only %d appends were cut, %d of them with the last write", cuts, lasts)
	}
}

// recovered opens the disk with power for ever so many writes, till it is open, and looks at what was found.
func recovered(t *testing.T, chance *rand.Rand, d *disk.Disk, want []string) *journal.Journal {
	t.Helper()
	for range 1000 {
		d.Up(chance.Intn(4))
		j, got, e := journal.Open(d)
		if e == api.ErrDown {
			continue
		}
		if e != api.OK || !slices.Equal(got, want) {
			t.Fatalf("%d records found, %d; want %d", len(got), e, len(want))
		}
		wantImage(t, d, laid(want))
		wantStands(t, j, len(want), len(laid(want)))
		return j
	}
	t.Fatal("no opening was answered with OK")
	return nil
}

// P7.5: drawn disks, with junk, faults and gaps: behind an Open there are the records' blocks alone.
func TestJustTheRecords(t *testing.T) {
	for seed := range 600 {
		chance := rand.New(rand.NewSource(int64(seed)))
		image := drawnImage(chance, seed)
		want, end := scanned(image)
		d := from(t, image)
		opened(t, d, want)
		wantImage(t, d, image[:end])
		if left := d.Image(); len(left) != end {
			t.Fatalf("%d blocks are left, the end is %d", len(left), end)
		}
	}
}

// R5: answered lists are new memory, with their spare room; handed-in lists stay, with theirs.
func TestOwnMemory(t *testing.T) {
	list := []string{"a", sized(30), "c"}
	image := laid(list)
	room := append(slices.Clone(image), "spare", "room")
	first, _ := journal.Scan(room[:len(image)])
	second, _ := journal.Scan(room[:len(image)])
	_ = append(first, "more")
	for i := range first[:cap(first)] {
		first[:cap(first)][i] = "changed"
	}
	if !slices.Equal(second, list) || !slices.Equal(room, append(slices.Clone(image), "spare", "room")) {
		t.Error("two answers of Scan, or an answer and the blocks, share memory")
	}
	room[0] = "changed"
	if !slices.Equal(second, list) {
		t.Error("an answer hangs on the blocks")
	}

	d := from(t, image)
	j, found, _ := journal.Open(d)
	_, again, _ := journal.Open(d)
	for i := range found[:cap(found)] {
		found[:cap(found)][i] = "changed"
	}
	if !slices.Equal(again, list) {
		t.Error("two answers of Open share memory")
	}
	wantAppend(t, j, "d", api.OK)
	wantStands(t, j, 4, 5)
	opened(t, d, append(list, "d"))
}

// R6: two journals on two disks, used in turn; what befalls the one isn't seen in the other.
func TestTwoJournals(t *testing.T) {
	d, other := disk.New(), from(t, laid([]string{"o"}))
	j, k := opened(t, d, nil), opened(t, other, []string{"o"})
	wantAppend(t, j, "a", api.OK)
	wantStands(t, k, 1, 1)
	wantAppend(t, k, sized(40), api.OK)
	wantStands(t, j, 1, 1)
	d.Up(1)
	wantAppend(t, j, sized(40), api.ErrDown)
	wantAppend(t, k, "p", api.OK)
	wantStands(t, k, 3, 4)
	other.Off()
	d.Up(-1)
	wantAppend(t, j, "b", api.ErrDown)
	j = opened(t, d, []string{"a"})
	wantAppend(t, j, "b", api.OK)
	wantAppend(t, k, "q", api.ErrDown)
	wantAppend(t, j, "c", api.OK)
	opened(t, d, []string{"a", "b", "c"})
	other.Up(-1)
	opened(t, other, []string{"o", sized(40), "p"})
}
