package sum_test

import (
	"fmt"
	"hash/crc32"
	"math"
	"math/rand"
	"strings"
	"testing"

	"coterie/api"
	"coterie/sum"
)

// turned is the word with its bits turned about: the lowest becomes the greatest.
func turned(x uint32) uint32 {
	var y uint32
	for i := range 32 {
		y = y*2 + x>>i%2
	}
	return y
}

// divided is Extend another way: the text's bits, each byte's lowest first, are divided by the polynomial 04c11db7 as it stands ahead of the turning.
func divided(s uint32, text string) uint32 {
	rest := turned(math.MaxUint32 - s)
	for i := range len(text) {
		for bit := range 8 {
			out := rest/(1<<31) + uint32(text[i])>>bit%2
			rest *= 2
			if out == 1 {
				rest ^= 0x04c11db7
			}
		}
	}
	return math.MaxUint32 - turned(rest)
}

// sums are sums at the edges, those of one bit, and ordinary ones.
func sums() []uint32 {
	list := []uint32{0, 1, 2, 7, 0xff, 0x100, 0xffff, 0x10000, 0xffffff, 0x1000000, 0x7fffffff, 0x80000000, 0x80000001, 0xfffffffe, math.MaxUint32, 0xedb88320, 0x04c11db7, 0xcbf43926, 0x2144df1c, 0x00abcdef, 0x01020304, 0x0a0b0c0d}
	for i := range 32 {
		list = append(list, 1<<i, math.MaxUint32-1<<i)
	}
	chance := rand.New(rand.NewSource(41))
	for range 200 {
		list = append(list, chance.Uint32())
	}
	return list
}

// drawn is a text of that length, of any bytes.
func drawn(chance *rand.Rand, length int) string {
	b := make([]byte, length)
	for i := range b {
		b[i] = byte(chance.Intn(256))
	}
	return string(b)
}

// texts are the text of no bytes, noughts, bytes 255, ordinary texts, and a few of any bytes.
func texts() []string {
	list := []string{"", "a", "b", "abc", "123456789", "\x80", "\x7f", "\x00a", "a\x00", "caf\xc3\xa9", "no rune: \xff\xfe\xc3"}
	for n := 1; n <= 40; n++ {
		list = append(list, strings.Repeat("\x00", n), strings.Repeat("\xff", n), strings.Repeat("\x01\x80", n))
	}
	chance := rand.New(rand.NewSource(42))
	for n := range 80 {
		list = append(list, drawn(chance, n))
	}
	return list
}

// excl is the texts' exclusive or, byte by byte; they have one length.
func excl(a, b string) string {
	c := []byte(a)
	for i := range c {
		c[i] ^= b[i]
	}
	return string(c)
}

func wantSum(t *testing.T, text string, want uint32) {
	t.Helper()
	if got := sum.Sum(text); got != want {
		t.Fatalf("Sum of %d bytes, %.40x = %08x, want %08x", len(text), text, got, want)
	}
}

func wantExtend(t *testing.T, s uint32, text string, want uint32) {
	t.Helper()
	if got := sum.Extend(s, text); got != want {
		t.Fatalf("Extend(%08x, %d bytes, %.40x) = %08x, want %08x", s, len(text), text, got, want)
	}
}

// P4.1: the chapter's examples of Sum and Extend, and what is known of this sum elsewhere.
func TestExamples(t *testing.T) {
	wantSum(t, "", 0)
	wantSum(t, "123456789", 0xcbf43926)
	wantSum(t, "a", 0xe8b7be43)
	wantSum(t, "abc", 0x352441c2)
	wantSum(t, "\x00", 0xd202ef8d)
	wantSum(t, "\xff", 0xff000000)
	wantSum(t, "\x00\x00\x00\x00", 0x2144df1c)
	wantSum(t, "\xff\xff\xff\xff", 0xffffffff)
	wantSum(t, strings.Repeat("\x00", 32), 0x190a55ad)
	wantSum(t, strings.Repeat("\xff", 32), 0xff6cab0b)
	wantSum(t, "The quick brown fox jumps over the lazy dog", 0x414fa339)
	wantExtend(t, 0xe8b7be43, "bc", 0x352441c2)
	wantExtend(t, 0, "123456789", 0xcbf43926)
	wantExtend(t, 7, "", 7)
}

// P4.1: every text of one byte and of two.
func TestSumShort(t *testing.T) {
	for a := range 256 {
		one := string([]byte{byte(a)})
		wantSum(t, one, divided(0, one))
		for b := range 256 {
			two := string([]byte{byte(a), byte(b)})
			wantSum(t, two, divided(0, two))
		}
	}
}

// P4.1: noughts, bytes 255, ordinary and drawn texts.
func TestSumTexts(t *testing.T) {
	for _, text := range texts() {
		wantSum(t, text, divided(0, text))
		wantSum(t, text, crc32.ChecksumIEEE([]byte(text)))
	}
}

// P4.1: long texts, at lengths about which a count of few bits would go round.
func TestSumLong(t *testing.T) {
	chance := rand.New(rand.NewSource(43))
	for _, n := range []int{255, 256, 257, 4096, 5865, 65535, 65536, 65537, 1 << 20} {
		for _, text := range []string{strings.Repeat("\x00", n), strings.Repeat("\xff", n), drawn(chance, n)} {
			wantSum(t, text, crc32.ChecksumIEEE([]byte(text)))
			wantExtend(t, 0x12345678, text, crc32.Update(0x12345678, crc32.IEEETable, []byte(text)))
		}
	}
}

// P4.1: Extend from any sum, also from one that is no text's yet.
func TestExtend(t *testing.T) {
	for _, s := range sums() {
		for b := range 256 {
			one := string([]byte{byte(b)})
			wantExtend(t, s, one, divided(s, one))
		}
		for _, text := range texts() {
			wantExtend(t, s, text, divided(s, text))
		}
	}
}

// P4.1, R6: what a call answers hangs on nothing that was asked before it.
func TestAnswersStay(t *testing.T) {
	for _, s := range sums() {
		sum.Extend(s, "something else")
		sum.Sum(sum.Hex(s))
		wantSum(t, "123456789", 0xcbf43926)
		wantExtend(t, 0xe8b7be43, "bc", 0x352441c2)
	}
}

// P4.2: a text in two pieces, wherever it is parted, is the text; so it is in many.
func TestPieces(t *testing.T) {
	for _, text := range texts() {
		whole := sum.Sum(text)
		bytewise := sum.Sum("")
		for at := 0; at <= len(text); at++ {
			wantExtend(t, sum.Sum(text[:at]), text[at:], whole)
			if at < len(text) {
				bytewise = sum.Extend(bytewise, text[at:at+1])
			}
		}
		if bytewise != whole {
			t.Fatalf("%x byte by byte: %08x, at once: %08x", text, bytewise, whole)
		}
	}
}

// P4.2: two texts one behind the other, in both orders.
func TestPiecesOrder(t *testing.T) {
	list := texts()
	for i, a := range list {
		b := list[(i*7+3)%len(list)]
		wantExtend(t, sum.Sum(a), b, sum.Sum(a+b))
		wantExtend(t, sum.Sum(b), a, sum.Sum(b+a))
	}
}

// P4.2: nothing behind a sum leaves it as it is.
func TestExtendNothing(t *testing.T) {
	for _, s := range sums() {
		wantExtend(t, s, "", s)
	}
}

func wantBalance(t *testing.T, a, b, c string) {
	t.Helper()
	d := excl(excl(a, b), c)
	if x := sum.Sum(a) ^ sum.Sum(b) ^ sum.Sum(c) ^ sum.Sum(d); x != 0 {
		t.Fatalf("%x, %x, %x and their exclusive or: the sums' is %08x", a, b, c, x)
	}
}

// P4.3: three texts of one length and their exclusive or; with noughts, with bytes 255, and with twice the same.
func TestBalance(t *testing.T) {
	chance := rand.New(rand.NewSource(44))
	lengths := []int{0, 1, 2, 3, 4, 5, 8, 31, 32, 33, 64, 255, 256, 1000, 5865}
	for _, n := range lengths {
		noughts, full := strings.Repeat("\x00", n), strings.Repeat("\xff", n)
		for range 30 {
			a, b, c := drawn(chance, n), drawn(chance, n), drawn(chance, n)
			wantBalance(t, a, b, c)
			wantBalance(t, a, b, noughts)
			wantBalance(t, a, noughts, full)
			wantBalance(t, a, a, b)
			wantBalance(t, a, a, a)
		}
	}
}

// differ holds the text against itself with these bytes changed, from a place on.
func differ(t *testing.T, text string, at int, change ...byte) {
	t.Helper()
	other := []byte(text)
	for i, c := range change {
		other[at+i] ^= c
	}
	if sum.Sum(text) == sum.Sum(string(other)) {
		t.Fatalf("%x and %x have the sum %08x", text, other, sum.Sum(text))
	}
}

// grounds are texts that are changed in few bytes.
func grounds() []string {
	chance := rand.New(rand.NewSource(45))
	return []string{strings.Repeat("\x00", 4), strings.Repeat("\xff", 5), drawn(chance, 4), drawn(chance, 9), drawn(chance, 32)}
}

// P4.4: one bit, and one byte, wherever it stands.
func TestOneByte(t *testing.T) {
	list := append(grounds(), "\x00", "a", "\xff", "ab", "abc", strings.Repeat("\x00", 300))
	for _, text := range list {
		for at := range len(text) {
			for bit := range 8 {
				differ(t, text, at, 1<<bit)
			}
			for c := 1; c < 256; c++ {
				differ(t, text, at, byte(c))
			}
		}
	}
}

// P4.4: both ends of two, three and four neighbouring bytes; at each place the bits of both ends, at one place of each text every change.
func TestEnds(t *testing.T) {
	for _, text := range grounds() {
		for at := range len(text) - 3 {
			for i := range 64 {
				first, last := byte(1<<(i/8)), byte(1<<(i%8))
				differ(t, text, at, first, last)
				differ(t, text, at, first, 0, last)
				differ(t, text, at, first, 0, 0, last)
			}
		}
		for first := 1; first < 256; first++ {
			for last := 1; last < 256; last++ {
				differ(t, text, len(text)-4, byte(first), 0, 0, byte(last))
			}
		}
	}
}

// P4.4: any change of four neighbouring bytes; among them that by the polynomial's own bytes, and by all bits.
func TestFourBytes(t *testing.T) {
	chance := rand.New(rand.NewSource(46))
	for _, text := range grounds() {
		for at := range len(text) - 3 {
			differ(t, text, at, 0x20, 0x83, 0xb8, 0xed)
			differ(t, text, at, 0xed, 0xb8, 0x83, 0x20)
			differ(t, text, at, 0xff, 0xff, 0xff, 0xff)
			for range 1000 {
				w := chance.Uint32()
				if w != 0 {
					differ(t, text, at, byte(w>>24), byte(w>>16), byte(w>>8), byte(w))
				}
			}
		}
	}
}

// independent: is none of the words, and no exclusive or of some of them, 0?
func independent(words []uint32) bool {
	var led [32]uint32 // by its greatest bit, a word that has it
	for _, w := range words {
		for bit := 31; bit >= 0 && w != 0; bit-- {
			if w>>bit != 1 {
				continue
			}
			if led[bit] == 0 {
				led[bit] = w
				break
			}
			w ^= led[bit]
		}
		if w == 0 {
			return false
		}
	}
	return true
}

// P4.4: every change of four neighbouring bytes at once: the sums' changes add up bit by bit (P4.3), so none of them is 0 if those of the 32 bits are independent.
func TestAllFourBytes(t *testing.T) {
	if !independent([]uint32{6, 3, 4}) || independent([]uint32{6, 3, 5}) || independent([]uint32{0}) || independent([]uint32{9, 9}) {
		t.Fatal("the test itself is wrong")
	}
	for _, text := range append(grounds(), strings.Repeat("\x00", 300)) {
		for at := range len(text) - 3 {
			var changes []uint32
			for bit := range 32 {
				other := []byte(text)
				other[at+bit/8] ^= 1 << (bit % 8)
				changes = append(changes, sum.Sum(text)^sum.Sum(string(other)))
			}
			if !independent(changes) {
				t.Fatalf("%x: two texts that differ in the four bytes from %d on have one sum", text, at)
			}
		}
	}
}

func wantBytes(t *testing.T, s uint32, want string) {
	t.Helper()
	if got := sum.Bytes(s); got != want {
		t.Fatalf("Bytes(%08x) = %x, want %x", s, got, want)
	}
}

func wantUnbytes(t *testing.T, text string, want uint32, status api.Errno) {
	t.Helper()
	if got, e := sum.Unbytes(text); got != want || e != status {
		t.Fatalf("Unbytes(%d bytes, %.20x) = %08x, %d; want %08x, %d", len(text), text, got, e, want, status)
	}
}

// P4.1: the sum's bytes, the greatest first, and their sum.
func TestBytes(t *testing.T) {
	for s, text := range map[uint32]string{
		0xcbf43926: "\xcb\xf4\x39\x26", 0: "\x00\x00\x00\x00", 1: "\x00\x00\x00\x01", math.MaxUint32: "\xff\xff\xff\xff",
		0x01020304: "\x01\x02\x03\x04", 0x80000000: "\x80\x00\x00\x00", 0x00ff0000: "\x00\xff\x00\x00", 0x100: "\x00\x00\x01\x00",
	} {
		wantBytes(t, s, text)
		wantUnbytes(t, text, s, api.OK)
	}
}

// P4.1: the text hasn't just four bytes; also at lengths that look like four if they are cut to few bits.
func TestUnbytesRefused(t *testing.T) {
	for n := range 70 {
		if n != 4 {
			wantUnbytes(t, strings.Repeat("\x00", n), 0, api.ErrBits)
			wantUnbytes(t, strings.Repeat("\x01", n), 0, api.ErrBits)
			wantUnbytes(t, strings.Repeat("\xff", n), 0, api.ErrBits)
		}
	}
	for _, n := range []int{256, 260, 65536, 65540} {
		wantUnbytes(t, strings.Repeat("\x01", n), 0, api.ErrBits)
	}
	wantUnbytes(t, "", 0, api.ErrBits)
	wantUnbytes(t, "abc", 0, api.ErrBits)
	wantUnbytes(t, "abcd\x00", 0, api.ErrBits)
	wantUnbytes(t, "\x00abcd", 0, api.ErrBits)
	wantUnbytes(t, "\u00e9\u00e9\u00e9\u00e9", 0, api.ErrBits) // four runes aren't four bytes
	wantUnbytes(t, "\u00e9\u00e9", 0xc3a9c3a9, api.OK)
}

// P4.5: from a sum to its bytes and back.
func TestBytesAndBack(t *testing.T) {
	list := sums()
	for _, text := range texts() {
		list = append(list, sum.Sum(text))
	}
	for _, s := range list {
		text := sum.Bytes(s)
		if len(text) != 4 {
			t.Fatalf("Bytes(%08x) = %x", s, text)
		}
		wantUnbytes(t, text, s, api.OK)
		wantSum(t, text, divided(0, text))
	}
}

// P4.5: from four bytes to their sum and back; every byte at every place.
func TestUnbytesAndBack(t *testing.T) {
	chance := rand.New(rand.NewSource(47))
	for at := range 4 {
		for b := range 256 {
			for _, ground := range []string{"\x00\x00\x00\x00", "\xff\xff\xff\xff", drawn(chance, 4)} {
				text := ground[:at] + string([]byte{byte(b)}) + ground[at+1:]
				s, e := sum.Unbytes(text)
				if e != api.OK {
					t.Fatalf("Unbytes(%x): %d", text, e)
				}
				wantBytes(t, s, text)
			}
		}
	}
}

// P4.1: eight digits, with noughts ahead, in small letters.
func TestHex(t *testing.T) {
	for s, want := range map[uint32]string{
		0xcbf43926: "cbf43926", 0: "00000000", 1: "00000001", math.MaxUint32: "ffffffff",
		0xa: "0000000a", 0x10: "00000010", 0x00abcdef: "00abcdef", 0x01234567: "01234567", 0x89abcdef: "89abcdef", 0x80000000: "80000000",
	} {
		if got := sum.Hex(s); got != want {
			t.Errorf("Hex(%#x) = %q, want %q", s, got, want)
		}
	}
	for _, s := range sums() {
		if got, want := sum.Hex(s), fmt.Sprintf("%08x", s); got != want {
			t.Errorf("Hex(%#x) = %q, want %q", s, got, want)
		}
	}
}
