package disk_test

import (
	"fmt"
	"math"
	"math/rand"
	"slices"
	"strings"
	"testing"

	"coterie/api"
	"coterie/disk"
)

// book is a disk another way: every image that there ever was, on a page of its own, the writes between them, and how the power was given.
type book struct {
	pages   []page
	writes  []api.Write
	on      bool
	counted bool
	left    int
}

type page [api.MaxBlocks]string

// bookOf is a book with that image on its first page.
func bookOf(image []string) *book {
	var first page
	copy(first[:], image)
	return &book{pages: []page{first}, on: true}
}

func (b *book) now() *page { return &b.pages[len(b.pages)-1] }

func (b *book) up(n int) { b.on, b.counted, b.left = n != 0, n >= 0, n }

func (b *book) write(at int, text string) api.Errno {
	switch {
	case !b.on:
		return api.ErrDown
	case at < 0 || at > 2047:
		return api.ErrBlock
	case len(text) > 32:
		return api.ErrLong
	}
	next := *b.now()
	next[at] = text
	b.pages = append(b.pages, next)
	b.writes = append(b.writes, api.Write{At: at, Text: text})
	if b.counted {
		b.left--
		b.on = b.left > 0
	}
	return api.OK
}

func (b *book) read(at int) (string, api.Errno) {
	switch {
	case !b.on:
		return "", api.ErrDown
	case at < 0 || at > 2047:
		return "", api.ErrBlock
	}
	return b.now()[at], api.OK
}

// cut is the book up to that page, with power.
func (b *book) cut(n int) *book {
	n = max(0, min(n, len(b.writes)))
	return &book{pages: slices.Clone(b.pages[:n+1]), writes: slices.Clone(b.writes[:n]), on: true}
}

// image is a page up to its last text.
func (p *page) image() []string {
	end := len(p)
	for end > 0 && p[end-1] == "" {
		end--
	}
	return slices.Clone(p[:end])
}

// both is a disk and the book that it is held against.
type both struct {
	t *testing.T
	d *disk.Disk
	b *book
}

func newBoth(t *testing.T) both {
	return both{t, disk.New(), bookOf(nil)}
}

func fromBoth(t *testing.T, image []string) both {
	t.Helper()
	d, e := disk.From(image)
	if e != api.OK || d == nil {
		t.Fatalf("From of %d texts: %d", len(image), e)
	}
	return both{t, d, bookOf(image)}
}

// look holds all that the disk shows, but single blocks, against the book.
func (p both) look() {
	p.t.Helper()
	if p.d.On() != p.b.on {
		p.t.Fatalf("On = %v behind %d writes, want %v", p.d.On(), len(p.b.writes), p.b.on)
	}
	if got, want := p.d.Image(), p.b.now().image(); !slices.Equal(got, want) {
		p.t.Fatalf("Image = %q behind %d writes, want %q", got, len(p.b.writes), want)
	}
	if got := p.d.Writes(); !slices.Equal(got, p.b.writes) {
		p.t.Fatalf("Writes = %v, want %v", got, p.b.writes)
	}
}

func (p both) write(at int, text string) api.Errno {
	p.t.Helper()
	got, want := p.d.Write(at, text), p.b.write(at, text)
	if got != want {
		p.t.Fatalf("Write(%d, %d bytes) = %d, want %d", at, len(text), got, want)
	}
	p.look()
	return got
}

func (p both) read(at int) {
	p.t.Helper()
	text, e := p.d.Read(at)
	if want, status := p.b.read(at); text != want || e != status {
		p.t.Fatalf("Read(%d) = %q, %d; want %q, %d", at, text, e, want, status)
	}
}

// readAll reads every place, and some that are none.
func (p both) readAll() {
	p.t.Helper()
	for at := range api.MaxBlocks {
		p.read(at)
	}
	for _, at := range noPlaces() {
		p.read(at)
	}
}

func (p both) up(n int) {
	p.t.Helper()
	p.d.Up(n)
	p.b.up(n)
	p.look()
}

func (p both) off() {
	p.t.Helper()
	p.d.Off()
	p.b.up(0)
	p.look()
}

func (p both) cut(n int) both {
	p.t.Helper()
	c := both{p.t, p.d.Cut(n), p.b.cut(n)}
	c.look()
	p.look()
	return c
}

// noPlaces are the places ahead of the first and behind the last, and numbers that look like a place where their upper bits are cut off.
func noPlaces() []int {
	return []int{-1, -2, -2047, -2048, -4096, math.MinInt, math.MinInt + 5, 2048, 2049, 4096, 4101, 65536, 65541, -65531, 1 << 32, 1<<32 + 5, -1<<32 + 5, math.MaxInt}
}

// bytes33 are texts that are too long.
func bytes33() []string {
	return []string{strings.Repeat("x", 33), strings.Repeat("\x00", 33), strings.Repeat("y", 34), strings.Repeat("é", 17), strings.Repeat("z", 64), strings.Repeat("z", 256), strings.Repeat("z", 257), strings.Repeat("z", 65537), strings.Repeat("z", 1<<20)}
}

// texts are texts that a block holds: none, any bytes, and just 32.
func texts() []string {
	list := []string{"", "a", "ab", "\x00", "\xff", "caf\xc3\xa9", "no rune: \xff\xfe\xc3", strings.Repeat("é", 16), strings.Repeat("\x00", 32), strings.Repeat("\xff", 32)}
	for n := 1; n <= 32; n++ {
		list = append(list, strings.Repeat("t", n))
	}
	return list
}

// P5.1: the chapter's rows of calls.
func TestExamples(t *testing.T) {
	d := disk.New()
	wantRead(t, d, 0, "", api.OK)
	wantRead(t, d, 2048, "", api.ErrBlock)
	wantRead(t, d, -1, "", api.ErrBlock)
	wantWrite(t, d, 2048, "", api.ErrBlock)
	wantWrite(t, d, 3, "ab", api.OK)
	wantImage(t, d, "", "", "", "ab")
	wantWrite(t, d, 3, strings.Repeat("x", 33), api.ErrLong)
	d.Up(1)
	wantWrite(t, d, 4, "x", api.OK)
	wantOn(t, d, false)
	wantWrite(t, d, 4, "y", api.ErrDown)
	wantRead(t, d, 4, "", api.ErrDown)
	d.Up(-1)
	wantRead(t, d, 4, "x", api.OK)
	d.Up(0)
	wantOn(t, d, false)
	d.Up(-1)
	wantWrites(t, d, api.Write{At: 3, Text: "ab"}, api.Write{At: 4, Text: "x"})
	wantImage(t, d.Cut(1), "", "", "", "ab")
	wantImage(t, d.Cut(-5))
	wantWrite(t, d, 3, "", api.OK)
	wantImage(t, d, "", "", "", "", "x")
	wantWrite(t, d, 4, "", api.OK)
	wantImage(t, d)
	wantWrites(t, d, api.Write{At: 3, Text: "ab"}, api.Write{At: 4, Text: "x"}, api.Write{At: 3}, api.Write{At: 4})
	f, e := disk.From([]string{"a", ""})
	if e != api.OK {
		t.Fatalf("From: %d", e)
	}
	wantImage(t, f, "a")
	wantWrites(t, f)
}

func wantRead(t *testing.T, d *disk.Disk, at int, text string, status api.Errno) {
	t.Helper()
	if got, e := d.Read(at); got != text || e != status {
		t.Errorf("Read(%d) = %q, %d; want %q, %d", at, got, e, text, status)
	}
}

func wantWrite(t *testing.T, d *disk.Disk, at int, text string, status api.Errno) {
	t.Helper()
	if e := d.Write(at, text); e != status {
		t.Errorf("Write(%d, %q) = %d, want %d", at, text, e, status)
	}
}

func wantImage(t *testing.T, d *disk.Disk, want ...string) {
	t.Helper()
	if got := d.Image(); !slices.Equal(got, want) {
		t.Errorf("Image = %q, want %q", got, want)
	}
}

func wantWrites(t *testing.T, d *disk.Disk, want ...api.Write) {
	t.Helper()
	if got := d.Writes(); !slices.Equal(got, want) {
		t.Errorf("Writes = %v, want %v", got, want)
	}
}

func wantOn(t *testing.T, d *disk.Disk, want bool) {
	t.Helper()
	if d.On() != want {
		t.Errorf("On = %v, want %v", d.On(), want)
	}
}

// P5.1: a new disk: empty at every place, without writes, with power.
func TestNew(t *testing.T) {
	p := newBoth(t)
	p.look()
	p.readAll()
	wantOn(t, p.d, true)
}

// P5.1: every place has a block of its own; the places 0 and 2047 are the ends.
func TestPlaces(t *testing.T) {
	d := disk.New()
	var want []string
	for at := range api.MaxBlocks {
		text := fmt.Sprint("block ", at)
		want = append(want, text)
		wantWrite(t, d, at, text, api.OK)
	}
	wantImage(t, d, want...)
	for at, text := range want {
		wantRead(t, d, at, text, api.OK)
	}
	for _, at := range []int{0, 1, 2046, 2047} {
		p := newBoth(t)
		p.write(at, "here")
		p.readAll()
		if n := len(p.d.Image()); n != at+1 {
			t.Errorf("written at %d: an image of %d", at, n)
		}
	}
}

// P5.1, R1, R3: a place that is none: refused, and nothing has changed.
func TestNoPlaces(t *testing.T) {
	for _, image := range [][]string{nil, {"a", "b", "", "c"}} {
		p := fromBoth(t, image)
		p.write(5, "five")
		p.up(2)
		for _, at := range noPlaces() {
			for _, text := range []string{"", "x", strings.Repeat("x", 32)} {
				if e := p.write(at, text); e != api.ErrBlock {
					t.Errorf("Write(%d, %q) = %d, want ErrBlock", at, text, e)
				}
			}
			wantRead(t, p.d, at, "", api.ErrBlock)
		}
		p.readAll()
	}
}

// P5.1: texts of any bytes, up to 32 of them; bytes count, not runes.
func TestTexts(t *testing.T) {
	p := newBoth(t)
	for i, text := range texts() {
		if e := p.write(i%7, text); e != api.OK {
			t.Errorf("%d bytes: %d", len(text), e)
		}
		p.read(i % 7)
	}
	p.readAll()
}

// P5.1, R3: texts of more than 32 bytes: refused, and nothing has changed.
func TestLongTexts(t *testing.T) {
	p := newBoth(t)
	p.write(3, "three")
	p.up(3)
	for _, text := range bytes33() {
		for _, at := range []int{0, 3, 4, 2047} {
			if e := p.write(at, text); e != api.ErrLong {
				t.Errorf("Write(%d, %d bytes) = %d, want ErrLong", at, len(text), e)
			}
		}
	}
	p.readAll()
}

// P5.1, R2: where several errors apply: the power ahead of the place, the place ahead of the length.
func TestFirstError(t *testing.T) {
	long := strings.Repeat("x", 33)
	d := disk.New()
	wantWrite(t, d, 2048, long, api.ErrBlock)
	wantWrite(t, d, -1, long, api.ErrBlock)
	d.Off()
	wantWrite(t, d, 2048, long, api.ErrDown)
	wantWrite(t, d, -1, "", api.ErrDown)
	wantWrite(t, d, 0, long, api.ErrDown)
	wantRead(t, d, 2048, "", api.ErrDown)
	wantRead(t, d, -1, "", api.ErrDown)
	image := make([]string, 2049)
	image[0] = long
	wantNoDisk(t, image, api.ErrBlock)
}

func wantNoDisk(t *testing.T, image []string, status api.Errno) {
	t.Helper()
	if d, e := disk.From(image); d != nil || e != status {
		t.Errorf("From of %d texts: %v, %d; want none, %d", len(image), d != nil, e, status)
	}
}

// P5.1: images of no texts, of empty ones, of texts between empty ones, and of 2048.
func TestFrom(t *testing.T) {
	full := make([]string, api.MaxBlocks)
	for at := range full {
		full[at] = fmt.Sprint("at ", at)
	}
	last := make([]string, api.MaxBlocks)
	last[2047] = strings.Repeat("l", 32)
	images := [][]string{nil, {}, {""}, {"", "", ""}, {"a"}, {"a", ""}, {"", "a"}, {"", "a", "", "", "b", "", ""}, texts(), make([]string, api.MaxBlocks), full, last}
	for _, image := range images {
		p := fromBoth(t, image)
		p.look()
		p.readAll()
		wantOn(t, p.d, true)
		wantWrites(t, p.d)
	}
}

// P5.1: images of more than 2048 texts, also of empty ones, and texts of 33 bytes wherever they stand.
func TestFromRefused(t *testing.T) {
	for _, n := range []int{2049, 2050, 4096, 65536, 65537, 1 << 17} {
		wantNoDisk(t, make([]string, n), api.ErrBlock)
	}
	for _, text := range bytes33() {
		for _, n := range []int{1, 2, 5, 2048} {
			for _, at := range []int{0, n / 2, n - 1} {
				image := make([]string, n)
				image[at] = text
				wantNoDisk(t, image, api.ErrLong)
			}
		}
	}
}

// P5.1: a text that is written over by itself, a block that is written empty again, and an empty block written empty: each write is recorded.
func TestWrittenAgain(t *testing.T) {
	for _, p := range []both{newBoth(t), fromBoth(t, []string{"one", "two", "", "four"})} {
		for _, at := range []int{1, 3, 0, 2, 7, 2047} {
			for _, text := range []string{"same", "same", "other", "other", "", "", "same", ""} {
				if e := p.write(at, text); e != api.OK {
					t.Fatalf("Write(%d, %q) = %d", at, text, e)
				}
				p.read(at)
			}
		}
		p.readAll()
		wantImage(t, p.d)
		if n := len(p.d.Writes()); n != 48 {
			t.Errorf("%d writes are recorded, want 48", n)
		}
	}
}

// P5.1: blocks of From's image that are written empty: the image ends further ahead, and the empty ones count as written.
func TestImageShrinks(t *testing.T) {
	p := fromBoth(t, []string{"a", "", "b", "c", ""})
	p.write(3, "")
	wantImage(t, p.d, "a", "", "b")
	p.write(2, "")
	wantImage(t, p.d, "a")
	p.write(0, "")
	wantImage(t, p.d)
	p.write(1, "z")
	wantImage(t, p.d, "", "z")
	wantWrites(t, p.d, api.Write{At: 3}, api.Write{At: 2}, api.Write{}, api.Write{At: 1, Text: "z"})
}

// P5.1: the power by Up, Off and On; the last that was said counts.
func TestPower(t *testing.T) {
	for _, n := range []int{-1, -2, -100, math.MinInt, math.MinInt + 1, -1 << 32, math.MinInt32} {
		p := newBoth(t)
		p.up(0)
		p.up(n)
		for i := range 40 {
			p.write(i, "on")
		}
		wantOn(t, p.d, true)
		p.off()
		wantWrite(t, p.d, 0, "x", api.ErrDown)
	}
	for _, n := range []int{1, 2, 3, 40, 2048, math.MaxInt32, 1 << 32, math.MaxInt} {
		p := newBoth(t)
		p.off()
		p.up(n)
		wantOn(t, p.d, true)
		p.off()
		wantOn(t, p.d, false)
		p.up(n)
		p.up(0)
		wantOn(t, p.d, false)
		p.up(n)
		p.write(0, "x")
		wantOn(t, p.d, n > 1)
	}
}

// P5.1: power without bound doesn't go behind more writes than any limit counts, however it was given.
func TestWithoutBound(t *testing.T) {
	given := disk.New()
	given.Up(-1)
	from, _ := disk.From([]string{"a"})
	for _, d := range []*disk.Disk{disk.New(), given, from, given.Cut(0)} {
		for i := range 70000 {
			if e := d.Write(i%3, "x"); e != api.OK {
				t.Fatalf("write %d: %d", i, e)
			}
		}
		wantOn(t, d, true)
		if n := len(d.Writes()); n != 70000 {
			t.Errorf("%d writes are recorded", n)
		}
	}
}

// P5.1: what was given before counts no more: neither added nor kept, less or more.
func TestPowerAnew(t *testing.T) {
	for _, before := range []int{-1, 0, 1, 2, 5, 9} {
		for _, n := range []int{-1, 0, 1, 2, 5, 9} {
			p := newBoth(t)
			p.up(before)
			p.write(0, "a")
			p.up(n)
			for i := range 12 {
				p.write(i, "b")
			}
			wantOn(t, p.d, n < 0)
		}
	}
}

// P5.1: without power nothing is read or written; the writes, the image and the cuts are told all the same.
func TestWithoutPower(t *testing.T) {
	for _, p := range []both{newBoth(t), fromBoth(t, []string{"a", "", "c"})} {
		p.write(0, "x")
		p.write(5, "y")
		p.off()
		p.readAll()
		for at := range 6 {
			if e := p.write(at, "z"); e != api.ErrDown {
				t.Errorf("Write(%d) without power = %d", at, e)
			}
		}
		for n := range 4 {
			c := p.cut(n)
			wantOn(t, c.d, true)
			c.write(1, "goes on")
			c.readAll()
		}
		p.up(-1)
		p.readAll()
	}
}

// drawnText is a text of up to 33 bytes, often empty.
func drawnText(chance *rand.Rand) string {
	n := max(0, chance.Intn(40)-6)
	return strings.Repeat(string(rune('a'+chance.Intn(3))), n)
}

// drawnPlace is mostly a place among few, at times one of the ends or none.
func drawnPlace(chance *rand.Rand) int {
	switch chance.Intn(10) {
	case 0:
		return chance.Intn(4) + 2045
	case 1:
		return -1 - chance.Intn(2)
	}
	return chance.Intn(8)
}

// drawnImage is an image of up to 12 texts.
func drawnImage(chance *rand.Rand) []string {
	var image []string
	for range chance.Intn(13) {
		text := drawnText(chance)
		image = append(image, text[:min(32, len(text))])
	}
	return image
}

// anyCall makes one drawn call on both.
func anyCall(p both, chance *rand.Rand) {
	switch chance.Intn(12) {
	case 0:
		p.up(chance.Intn(9) - 1)
	case 1:
		p.up(-1 - chance.Intn(5))
	case 2:
		if chance.Intn(4) == 0 {
			p.off()
		}
	case 3, 4:
		p.read(drawnPlace(chance))
	case 5:
		p.cut(chance.Intn(len(p.b.writes)+4) - 2)
	default:
		p.write(drawnPlace(chance), drawnText(chance))
	}
	p.look()
}

// P5.1: many rows of calls, on disks of New and of From, and on what is cut from them.
func TestRows(t *testing.T) {
	chance := rand.New(rand.NewSource(51))
	for i := range 120 {
		p := newBoth(t)
		if i%2 == 1 {
			p = fromBoth(t, drawnImage(chance))
		}
		for range 60 {
			anyCall(p, chance)
		}
		c := p.cut(chance.Intn(len(p.b.writes) + 1))
		for range 30 {
			anyCall(c, chance)
		}
		p.look()
		p.readAll()
		c.readAll()
	}
}

// again writes the disk's recorded writes, in their order, to the other one.
func again(t *testing.T, to *disk.Disk, writes []api.Write) {
	t.Helper()
	for _, w := range writes {
		wantWrite(t, to, w.At, w.Text, api.OK)
	}
}

// P5.2: the recorded writes, written to another disk of the same beginning, give the same blocks; cuts are such disks too.
func TestWrittenAnew(t *testing.T) {
	chance := rand.New(rand.NewSource(52))
	for i := range 100 {
		var image []string
		p := newBoth(t)
		if i%2 == 1 {
			image = drawnImage(chance)
			p = fromBoth(t, image)
		}
		for range 50 {
			anyCall(p, chance)
		}
		p.up(-1)
		for _, d := range []*disk.Disk{p.d, p.d.Cut(chance.Intn(len(p.b.writes) + 1))} {
			other := disk.New()
			if i%2 == 1 {
				other, _ = disk.From(image)
			}
			again(t, other, d.Writes())
			wantImage(t, other, d.Image()...)
			for at := range api.MaxBlocks {
				text, _ := d.Read(at)
				wantRead(t, other, at, text, api.OK)
			}
			wantWrites(t, other, d.Writes()...)
		}
	}
}

// P5.2: writes that were refused are no part of it, whyever they were.
func TestRefusedNotRecorded(t *testing.T) {
	d := disk.New()
	d.Up(2)
	wantWrite(t, d, 2048, "a", api.ErrBlock)
	wantWrite(t, d, 1, strings.Repeat("b", 33), api.ErrLong)
	wantWrites(t, d)
	wantWrite(t, d, 1, "c", api.OK)
	wantWrite(t, d, 1, "c", api.OK)
	wantWrite(t, d, 1, "d", api.ErrDown)
	wantWrites(t, d, api.Write{At: 1, Text: "c"}, api.Write{At: 1, Text: "c"})
	other := disk.New()
	again(t, other, d.Writes())
	wantImage(t, other, "", "c")
}

// P5.3: each cut has the image that the disk had when it had so many writes; its writes are these; its power is on without bound.
func TestCuts(t *testing.T) {
	chance := rand.New(rand.NewSource(53))
	for i := range 30 {
		p := newBoth(t)
		if i%2 == 1 {
			p = fromBoth(t, drawnImage(chance))
		}
		images := [][]string{p.d.Image()}
		for len(images) < 40 {
			before := len(p.d.Writes())
			anyCall(p, chance)
			if len(p.d.Writes()) > before {
				images = append(images, p.d.Image())
			}
			p.up(-1)
		}
		p.up(chance.Intn(3) - 1)
		for n, image := range images {
			c := p.cut(n)
			wantImage(t, c.d, image...)
			wantWrites(t, c.d, p.d.Writes()[:n]...)
			wantOn(t, c.d, true)
		}
	}
}

// P5.3: the disk's power goes behind one write more, or is off: that of a cut stays, however many writes it takes.
func TestCutPower(t *testing.T) {
	for _, n := range []int{-1, 0, 1, 2, 7} {
		p := newBoth(t)
		p.write(0, "a")
		p.up(n)
		c := p.cut(1)
		for i := range 20 {
			if e := c.write(i, "b"); e != api.OK {
				t.Fatalf("write %d of a cut: %d", i, e)
			}
		}
		wantOn(t, c.d, true)
		c.off()
		wantOn(t, p.d, n != 0)
	}
}

// P5.3: numbers below 0 count as 0, those above the number of writes as this number.
func TestCutEdges(t *testing.T) {
	for _, p := range []both{newBoth(t), fromBoth(t, []string{"", "one", "two"})} {
		first := p.d.Image()
		for _, n := range []int{0, 1, 5, -1, math.MaxInt, math.MinInt} {
			wantImage(t, p.cut(n).d, first...)
		}
		p.write(1, "x")
		p.write(2, "")
		p.write(9, "y")
		for _, n := range []int{0, -1, -5, math.MinInt, -1 << 32, 2 - 1<<32} {
			wantImage(t, p.cut(n).d, first...)
			wantWrites(t, p.cut(n).d)
		}
		for _, n := range []int{3, 4, 99, 2048, 1 << 32, 1<<32 + 1, math.MaxInt} {
			wantImage(t, p.cut(n).d, p.d.Image()...)
			wantWrites(t, p.cut(n).d, p.d.Writes()...)
		}
	}
}

// P5.3, R6: what is done to a cut isn't seen in the disk that it was cut from, nor the other way about, nor in another cut.
func TestCutsApart(t *testing.T) {
	for _, p := range []both{newBoth(t), fromBoth(t, []string{"f", "", "f", "f"})} {
		for i := range 11 {
			p.write(i%4, fmt.Sprint("w", i))
		}
		for n := range 12 {
			c, other := p.cut(n), p.cut(n)
			c.write(0, "cut")
			c.write(3, "")
			c.write(70, "cut")
			p.look()
			other.look()
			p.write(1, "disk")
			p.write(80, fmt.Sprint("disk", n))
			c.look()
			other.look()
			other.up(1)
			other.write(2, "other")
			c.look()
			p.look()
			p.off()
			c.look()
			p.up(-1)
			c.readAll()
			other.readAll()
			p.readAll()
		}
	}
}

// P5.3: a cut is cut like any other disk: to its beginning too, also behind writes of its own.
func TestCutOfCut(t *testing.T) {
	for _, p := range []both{newBoth(t), fromBoth(t, []string{"f", "", "f"})} {
		for i := range 8 {
			p.write(i%3, fmt.Sprint("w", i))
		}
		for n := range 9 {
			c := p.cut(n)
			c.write(2, "more")
			c.write(0, "")
			for m := -1; m <= n+3; m++ {
				c.cut(m).readAll()
			}
			c.look()
		}
		p.look()
	}
}

// P5.4: with Up(n) just the next n writes happen, those that are refused by the place or the length between them not counted; reading uses nothing up.
func TestSoManyWrites(t *testing.T) {
	long := strings.Repeat("x", 33)
	for n := range 30 {
		for _, d := range powered(t) {
			d.Up(n)
			happened := len(d.Writes())
			for i := range n {
				wantWrite(t, d, -1, "x", api.ErrBlock)
				wantWrite(t, d, 2048, "x", api.ErrBlock)
				wantWrite(t, d, i, long, api.ErrLong)
				wantRead(t, d, 2048, "", api.ErrBlock)
				if _, e := d.Read(i); e != api.OK {
					t.Fatalf("Read(%d) = %d", i, e)
				}
				wantOn(t, d, true)
				wantWrite(t, d, i%3, "same", api.OK)
				wantOn(t, d, i < n-1)
			}
			for _, w := range []api.Write{{At: 0}, {At: 1, Text: "y"}, {At: 2048}, {At: -1}, {At: 2, Text: long}} {
				wantWrite(t, d, w.At, w.Text, api.ErrDown)
			}
			if got := len(d.Writes()) - happened; got != n {
				t.Errorf("Up(%d): %d writes happened", n, got)
			}
			d.Up(1)
			wantWrite(t, d, 0, "again", api.OK)
			wantWrite(t, d, 0, "again", api.ErrDown)
		}
	}
}

// powered are disks made each of the ways, with power given before.
func powered(t *testing.T) []*disk.Disk {
	p, f := newBoth(t), fromBoth(t, []string{"a", "", "b"})
	f.write(0, "x")
	f.up(5)
	return []*disk.Disk{p.d, f.d, f.d.Cut(1), f.d.Cut(0)}
}

// P5.4: writes that aren't refused count whatever they change: a text over itself, an empty one over an empty block.
func TestWritesThatChangeNothing(t *testing.T) {
	d := disk.New()
	wantWrite(t, d, 0, "a", api.OK)
	d.Up(3)
	wantWrite(t, d, 0, "a", api.OK)
	wantWrite(t, d, 7, "", api.OK)
	wantOn(t, d, true)
	wantWrite(t, d, 0, "a", api.OK)
	wantOn(t, d, false)
	wantWrite(t, d, 0, "a", api.ErrDown)
}

// R5: the image that was handed in stays, spare room too, and isn't kept.
func TestImageHandedIn(t *testing.T) {
	room := []string{"a", "", "c", "spare", "more"}
	d, e := disk.From(room[:3])
	if e != api.OK {
		t.Fatal(e)
	}
	wantWrite(t, d, 0, "x", api.OK)
	wantWrite(t, d, 3, "y", api.OK)
	if !slices.Equal(room, []string{"a", "", "c", "spare", "more"}) {
		t.Errorf("the image has become %q", room)
	}
	for i := range room {
		room[i] = "changed"
	}
	wantImage(t, d, "x", "", "c", "y")
	wantImage(t, d.Cut(0), "a", "", "c")
	wantImage(t, d.Cut(1), "x", "", "c")
}

// overwrite changes a list, its spare room too.
func overwrite[T any](list []T, with T) {
	for i := range list[:cap(list)] {
		list[:cap(list)][i] = with
	}
}

// R5: the lists that are answered are memory of their own: changing them changes nothing of the disk, of its cuts, nor of other answers.
func TestAnswersApart(t *testing.T) {
	for _, p := range []both{newBoth(t), fromBoth(t, []string{"a", "", "c"})} {
		for i := range 9 {
			p.write(i%5, fmt.Sprint("w", i))
			c := p.cut(i)
			writes, image := p.d.Writes(), p.d.Image()
			overwrite(p.d.Writes(), api.Write{At: 77, Text: "changed"})
			overwrite(p.d.Image(), "changed")
			overwrite(c.d.Writes(), api.Write{At: 77, Text: "changed"})
			overwrite(c.d.Image(), "changed")
			p.look()
			c.look()
			p.cut(i + 1).readAll()
			wantWrites(t, p.d, writes...)
			wantImage(t, p.d, image...)
		}
	}
}

// R5: lists that were answered stay as they were while the disk goes on.
func TestAnswersStay(t *testing.T) {
	p := newBoth(t)
	var writes [][]api.Write
	var images [][]string
	for i := range 40 {
		p.write(i%6, fmt.Sprint("w", i))
		writes = append(writes, p.d.Writes())
		images = append(images, p.d.Image())
	}
	for i := range writes {
		if !slices.Equal(writes[i], p.b.writes[:i+1]) || !slices.Equal(images[i], p.b.pages[i+1].image()) {
			t.Fatalf("what was answered behind %d writes has changed", i+1)
		}
	}
}

// R6: two disks beside one another, made alike.
func TestTwoDisks(t *testing.T) {
	image := []string{"a", "", "c"}
	pairs := [][2]both{{newBoth(t), newBoth(t)}, {fromBoth(t, image), fromBoth(t, image)}}
	for _, pair := range pairs {
		one, two := pair[0], pair[1]
		for i := range 20 {
			one.write(i%4, fmt.Sprint("one", i))
			two.look()
			two.write(i%3, fmt.Sprint("two", i))
			one.look()
			one.up(i%3 + 1)
			two.look()
			two.off()
			one.look()
			two.up(-1)
		}
		one.up(-1)
		one.readAll()
		two.readAll()
	}
	p := newBoth(t)
	p.look()
	p.readAll()
}
