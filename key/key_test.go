package key_test

import (
	"math"
	"math/rand"
	"regexp"
	"slices"
	"strconv"
	"testing"

	"coterie/api"
	"coterie/key"
)

func k(base, step int) api.Key { return api.Key{Base: base, Step: step} }

// goods are good keys: ordinary ones, and those at the edges of Base and of Step.
func goods() []api.Key {
	var list []api.Key
	for _, base := range []int{1, 2, 7, 8, 12, 255, 256, 257, 32767, 32768, 65279, 65534, 65535} {
		for _, step := range []int{0, 1, 3, 5, 6, 127, 128, 254, 255} {
			list = append(list, k(base, step))
		}
	}
	return list
}

// bads are keys that aren't good; among them those that would look good if a conversion or an overflow cut their numbers.
func bads() []api.Key {
	bases := []int{math.MinInt, math.MinInt + 1, -1 << 32, -1<<32 + 7, -65535, -7, -1, 0, 65536, 65537, 65536 + 7, 1<<24 + 7, 1 << 31, 1<<32 + 7, math.MaxInt - 1, math.MaxInt}
	steps := []int{math.MinInt, math.MinInt + 1, -1 << 32, -1<<32 + 3, -256, -255, -2, -1, 256, 257, 256 + 3, 1 << 16, 1 << 31, 1<<32 + 3, math.MaxInt - 1, math.MaxInt}
	var list []api.Key
	for _, base := range bases {
		for _, step := range []int{0, 3, 255} {
			list = append(list, k(base, step))
		}
	}
	for _, step := range steps {
		for _, base := range []int{1, 7, 65535} {
			list = append(list, k(base, step))
		}
	}
	for _, base := range bases {
		for _, step := range steps {
			list = append(list, k(base, step))
		}
	}
	return list
}

func all() []api.Key { return append(goods(), bads()...) }

// some are few keys of all(), for tests over three of them at a time.
func some() []api.Key {
	return []api.Key{
		k(1, 0), k(1, 255), k(7, 3), k(7, 5), k(7, 6), k(8, 3), k(65535, 0), k(65535, 255),
		k(0, 0), k(65536, 0), k(7, -1), k(7, 256), k(-7, 3), k(7, math.MinInt), k(7, math.MaxInt),
		k(math.MinInt, math.MinInt), k(math.MinInt, math.MaxInt), k(math.MaxInt, math.MinInt), k(math.MaxInt, math.MaxInt),
	}
}

// within is the document's 'good', put in other words than the package's.
func within(x api.Key) bool {
	return !(x.Base < 1 || x.Base > 65535 || x.Step < 0 || x.Step > 255)
}

// P2.1: Good.
func TestGood(t *testing.T) {
	for _, x := range goods() {
		if !key.Good(x) {
			t.Errorf("Good(%v) is false", x)
		}
	}
	for _, x := range bads() {
		if key.Good(x) {
			t.Errorf("Good(%v) is true", x)
		}
	}
	for base := -3; base <= 65540; base++ {
		for _, step := range []int{-1, 0, 128, 255, 256} {
			if x := k(base, step); key.Good(x) != within(x) {
				t.Fatalf("Good(%v) is %v", x, !within(x))
			}
		}
	}
	for step := -3; step <= 260; step++ {
		for _, base := range []int{0, 1, 300, 65535, 65536} {
			if x := k(base, step); key.Good(x) != within(x) {
				t.Fatalf("Good(%v) is %v", x, !within(x))
			}
		}
	}
}

func wantAhead(t *testing.T, x api.Key, n int, want api.Key, status api.Errno) {
	t.Helper()
	if got, e := key.Ahead(x, n); got != want || e != status {
		t.Errorf("Ahead(%v, %d) = %v, %d; want %v, %d", x, n, got, e, want, status)
	}
}

// P2.1: Ahead at keys and numbers of every sort; ErrKey is ahead of ErrStep.
func TestAhead(t *testing.T) {
	far := []int{math.MinInt, math.MinInt + 1, -1<<32 + 1, -1 << 31, -256, -255, -1, 256, 257, 1 << 31, 1<<32 + 1, 1 << 62, math.MaxInt - 255, math.MaxInt - 1, math.MaxInt}
	for _, x := range goods() {
		for n := 0; n <= 255; n++ {
			if x.Step+n <= 255 {
				wantAhead(t, x, n, k(x.Base, x.Step+n), api.OK)
			} else {
				wantAhead(t, x, n, api.Key{}, api.ErrStep)
			}
		}
		for _, n := range far {
			wantAhead(t, x, n, api.Key{}, api.ErrStep)
		}
	}
	for _, x := range bads() {
		for _, n := range append(far, 0, 1, 255) {
			wantAhead(t, x, n, api.Key{}, api.ErrKey)
		}
	}
	wantAhead(t, k(7, 3), 2, k(7, 5), api.OK)
	wantAhead(t, k(7, 3), 0, k(7, 3), api.OK)
	wantAhead(t, k(7, 254), 2, api.Key{}, api.ErrStep)
	wantAhead(t, k(0, 0), -1, api.Key{}, api.ErrKey)
}

// P2.1: two advances one behind the other are one advance.
func TestAheadTwice(t *testing.T) {
	for _, step := range []int{0, 1, 100, 254, 255} {
		x := k(9, step)
		for n := 0; n <= 256-step; n++ {
			for m := 0; m <= 256-step; m++ {
				once, e := key.Ahead(x, n+m)
				if e != api.OK {
					continue
				}
				half, e1 := key.Ahead(x, n)
				twice, e2 := key.Ahead(half, m)
				if e1 != api.OK || e2 != api.OK || twice != once {
					t.Fatalf("%v: %d, then %d: %v, %d, %d; at once: %v", x, n, m, twice, e1, e2, once)
				}
			}
		}
	}
}

// reaches goes through all advances of a, one by one.
func reaches(a, b api.Key) bool {
	for n := 0; n <= 255; n++ {
		if x, e := key.Ahead(a, n); e == api.OK && x == b {
			return true
		}
	}
	return false
}

// P2.1: a gives b just if some advance of a is b.
func TestGives(t *testing.T) {
	for _, a := range all() {
		for _, b := range all() {
			want := within(a) && within(b) && a.Base == b.Base && a.Step <= b.Step
			if got := key.Gives(a, b); got != want {
				t.Fatalf("Gives(%v, %v) is %v", a, b, got)
			}
		}
	}
	for _, a := range some() {
		for _, b := range some() {
			if got, want := key.Gives(a, b), reaches(a, b); got != want {
				t.Errorf("Gives(%v, %v) is %v, but an advance is it: %v", a, b, got, want)
			}
		}
	}
	for a := 0; a <= 255; a++ {
		for b := 0; b <= 255; b++ {
			if got := key.Gives(k(40, a), k(40, b)); got != (a <= b) {
				t.Errorf("Gives at the steps %d, %d is %v", a, b, got)
			}
		}
	}
}

func sign(a, b int) int {
	switch {
	case a < b:
		return -1
	case a > b:
		return 1
	}
	return 0
}

// P2.1: Compare looks at the Base, then at the Step, of any keys.
func TestCompare(t *testing.T) {
	for _, a := range all() {
		for _, b := range all() {
			want := sign(a.Base, b.Base)
			if want == 0 {
				want = sign(a.Step, b.Step)
			}
			if got := key.Compare(a, b); got != want {
				t.Fatalf("Compare(%v, %v) = %d, want %d", a, b, got, want)
			}
		}
	}
}

// P2.1: Compare is a total order.
func TestCompareTotal(t *testing.T) {
	for _, a := range some() {
		for _, b := range some() {
			ab := key.Compare(a, b)
			if ab != -key.Compare(b, a) || (ab == 0) != (a == b) {
				t.Errorf("Compare of %v and %v: %d, the other way round %d", a, b, ab, key.Compare(b, a))
			}
			for _, c := range some() {
				if ab <= 0 && key.Compare(b, c) <= 0 && key.Compare(a, c) > 0 {
					t.Errorf("%v, %v, %v rise, but the last is below the first", a, b, c)
				}
			}
		}
	}
}

// P2.2: every good key has its word, comes back from it, and stands where its word stands.
func TestPackAllGood(t *testing.T) {
	last := uint32(0)
	for base := 1; base <= 65535; base++ {
		for step := 0; step <= 255; step++ {
			x := k(base, step)
			w, e := key.Pack(x)
			if e != api.OK || uint64(w) != uint64(base)*256+uint64(step) {
				t.Fatalf("Pack(%v) = %d, %d", x, w, e)
			}
			if w <= last {
				t.Fatalf("Pack(%v) = %d is not above the word ahead of it, %d", x, w, last)
			}
			last = w
			if back, e := key.Unpack(w); e != api.OK || back != x {
				t.Fatalf("Unpack(%d) = %v, %d", w, back, e)
			}
		}
	}
	for _, a := range goods() {
		for _, b := range goods() {
			v, _ := key.Pack(a)
			w, _ := key.Pack(b)
			if key.Compare(a, b) != sign(int(v), int(w)) {
				t.Errorf("%v, %v are ordered otherwise than %d, %d", a, b, v, w)
			}
		}
	}
	if w, e := key.Pack(k(12, 3)); w != 3075 || e != api.OK {
		t.Errorf("Pack({12 3}) = %d, %d", w, e)
	}
}

// badWords are words of no good key: below the first one, above the last one.
func badWords() []uint32 {
	list := []uint32{0, 1, 254, 255, 65536 * 256, 65536*256 + 1, 65537 * 256, 1 << 25, 1 << 31, 1<<31 + 256, math.MaxUint32 - 255, math.MaxUint32}
	for bit := 24; bit < 32; bit++ {
		list = append(list, 1<<bit, 1<<bit+3075, 1<<bit|65535*256+255)
	}
	return list
}

// P2.2: wrong keys have no word, and words of no good key are refused.
func TestPackWrong(t *testing.T) {
	for _, x := range bads() {
		if w, e := key.Pack(x); w != 0 || e != api.ErrKey {
			t.Errorf("Pack(%v) = %d, %d", x, w, e)
		}
	}
	for _, w := range badWords() {
		if x, e := key.Unpack(w); x != (api.Key{}) || e != api.ErrKey {
			t.Errorf("Unpack(%d) = %v, %d", w, x, e)
		}
	}
	for w := uint32(0); w < 600; w++ {
		x, e := key.Unpack(w)
		if w < 256 && e != api.ErrKey || w >= 256 && (e != api.OK || x != k(int(w/256), int(w%256))) {
			t.Errorf("Unpack(%d) = %v, %d", w, x, e)
		}
	}
}

// P2.2: boxes there and back.
func TestPackBox(t *testing.T) {
	for _, under := range goods() {
		for _, load := range goods() {
			b := api.Box{Under: under, Load: load}
			want := uint64(under.Base*256+under.Step)*(1<<32) + uint64(load.Base*256+load.Step)
			w, e := key.PackBox(b)
			if w != want || e != api.OK {
				t.Fatalf("PackBox(%v) = %d, %d, want %d", b, w, e, want)
			}
			if back, e := key.UnpackBox(w); back != b || e != api.OK {
				t.Fatalf("UnpackBox(%d) = %v, %d", w, back, e)
			}
		}
	}
	if w, e := key.PackBox(api.Box{Under: k(12, 3), Load: k(1, 0)}); w != 3075<<32+256 || e != api.OK {
		t.Errorf("PackBox = %d, %d", w, e)
	}
}

// P2.2: a box with a wrong key has no word; a word with a wrong half is refused.
func TestPackBoxWrong(t *testing.T) {
	for _, bad := range bads() {
		for _, b := range []api.Box{{Under: bad, Load: k(1, 0)}, {Under: k(1, 0), Load: bad}, {Under: bad, Load: bad}} {
			if w, e := key.PackBox(b); w != 0 || e != api.ErrKey {
				t.Errorf("PackBox(%v) = %d, %d", b, w, e)
			}
		}
	}
	for _, bad := range badWords() {
		for _, w := range []uint64{uint64(bad)<<32 | 3075, 3075<<32 | uint64(bad), uint64(bad)<<32 | uint64(bad)} {
			if b, e := key.UnpackBox(w); b != (api.Box{}) || e != api.ErrKey {
				t.Errorf("UnpackBox(%d) = %v, %d", w, b, e)
			}
		}
	}
}

func wantText(t *testing.T, x api.Key) {
	t.Helper()
	want := "k" + strconv.FormatInt(int64(x.Base), 10) + "." + strconv.FormatInt(int64(x.Step), 10)
	if text, e := key.Text(x); text != want || e != api.OK {
		t.Fatalf("Text(%v) = %q, %d", x, text, e)
	}
	if back, e := key.Parse(want); back != x || e != api.OK {
		t.Fatalf("Parse(%q) = %v, %d", want, back, e)
	}
}

// P2.3: texts there and back, at every Base and at every Step.
func TestText(t *testing.T) {
	for _, x := range goods() {
		wantText(t, x)
	}
	for base := 1; base <= 65535; base++ {
		wantText(t, k(base, 0))
		wantText(t, k(base, base%256))
		wantText(t, k(base, 255))
	}
	for step := 0; step <= 255; step++ {
		wantText(t, k(1, step))
		wantText(t, k(65535, step))
	}
	for _, x := range bads() {
		if text, e := key.Text(x); text != "" || e != api.ErrKey {
			t.Errorf("Text(%v) = %q, %d", x, text, e)
		}
	}
}

func wantNoKey(t *testing.T, text string) {
	t.Helper()
	if x, e := key.Parse(text); x != (api.Key{}) || e != api.ErrText {
		t.Errorf("Parse(%q) = %v, %d", text, x, e)
	}
}

// P2.3: texts that no good key has.
func TestParseWrong(t *testing.T) {
	for _, text := range []string{
		"", "k", ".", "k.", "k1", "k1.", "k.1", "1.0", "k12", "k12,3", "k12.3.", "k12.3.4", "k12..3", "kk12.3", "K12.3", "q12.3",
		" k12.3", "k12.3 ", "k 12.3", "k12 .3", "k12. 3", "k12.3\n", "\tk12.3", "k12.3\x00", "\x00k12.3", "k12\xff.3",
		"k012.3", "k12.03", "k00012.3", "k12.00", "k1.000", "k+12.3", "k12.+3", "k-12.3", "k12.-3", "k-0.0", "k12.-0", "k1.+0",
		"k0.0", "k0.1", "k00.0", "k65536.0", "k65537.1", "k1.256", "k1.257", "k65536.256", "k99999.0", "k1.999", "k100000.0",
		"k9223372036854775807.0", "k1.9223372036854775807", "k-9223372036854775808.0", "k1.-9223372036854775808",
		"k9223372036854775808.0", "k18446744073709551617.0", "k1.18446744073709551616", "k4294967297.0", "k1.4294967296",
		"k99999999999999999999999999999999.0", "k1.99999999999999999999999999999999",
		"k1_2.3", "k12.2_5", "k0x1.0", "k1e1.0", "k1.0x1", "k0b1.0", "k12.3k12.3", "k\u0661.0", "k12\u00b73",
	} {
		wantNoKey(t, text)
	}
	for _, x := range bads() {
		wantNoKey(t, "k"+strconv.Itoa(x.Base)+"."+strconv.Itoa(x.Step))
	}
}

// P2.3: whatever stands beside a good key's text (a byte more, less, or another one) is taken just if it is a good key's text.
func TestParseBeside(t *testing.T) {
	form := regexp.MustCompile(`^k([1-9][0-9]{0,4})\.(0|[1-9][0-9]{0,2})$`)
	look := func(text string) {
		want := api.Key{}
		if part := form.FindStringSubmatch(text); part != nil {
			base, _ := strconv.Atoi(part[1])
			step, _ := strconv.Atoi(part[2])
			if base <= 65535 && step <= 255 {
				want = k(base, step)
			}
		}
		status := api.OK
		if want == (api.Key{}) {
			status = api.ErrText
		}
		if x, e := key.Parse(text); x != want || e != status {
			t.Errorf("Parse(%q) = %v, %d; want %v, %d", text, x, e, want, status)
		}
	}
	for _, text := range []string{"k1.0", "k12.3", "k65535.255", "k65534.249", "k10.10", "k6553.25"} {
		for i := 0; i <= len(text); i++ {
			if i < len(text) {
				look(text[:i] + text[i+1:])
			}
			for c := range 256 {
				one := string([]byte{byte(c)})
				look(text[:i] + one + text[i:])
				if i < len(text) {
					look(text[:i] + one + text[i+1:])
				}
			}
		}
	}
}

// P2.4: a box is made of two good keys as they are.
func TestSeal(t *testing.T) {
	for _, under := range all() {
		for _, load := range some() {
			want, status := api.Box{}, api.ErrKey
			if within(under) && within(load) {
				want, status = api.Box{Under: under, Load: load}, api.OK
			}
			if b, e := key.Seal(under, load); b != want || e != status {
				t.Errorf("Seal(%v, %v) = %v, %d", under, load, b, e)
			}
			if within(load) || !within(under) {
				continue
			}
			if b, e := key.Seal(load, under); b != (api.Box{}) || e != api.ErrKey {
				t.Errorf("Seal(%v, %v) = %v, %d", load, under, b, e)
			}
		}
	}
}

func wantOpen(t *testing.T, b api.Box, x, want api.Key, status api.Errno) {
	t.Helper()
	if got, e := key.Open(b, x); got != want || e != status {
		t.Errorf("Open(%v, %v) = %v, %d; want %v, %d", b, x, got, e, want, status)
	}
}

// P2.4: what was sealed is opened by each key that gives Under, by no other one.
func TestOpen(t *testing.T) {
	for _, under := range goods() {
		load := k(2, 9)
		b, e := key.Seal(under, load)
		if e != api.OK {
			t.Fatal(under, e)
		}
		for _, x := range goods() {
			if x.Base == under.Base && x.Step <= under.Step {
				wantOpen(t, b, x, load, api.OK)
			} else {
				wantOpen(t, b, x, api.Key{}, api.ErrOpen)
			}
		}
		wantOpen(t, b, under, load, api.OK)
	}
	for _, load := range goods() {
		wantOpen(t, api.Box{Under: k(7, 5), Load: load}, k(7, 3), load, api.OK)
		wantOpen(t, api.Box{Under: k(7, 5), Load: load}, k(7, 6), api.Key{}, api.ErrOpen)
	}
}

// P2.4: a wrong key, in the box or beside it, is told ahead of all else.
func TestOpenWrong(t *testing.T) {
	good := k(7, 5)
	for _, bad := range bads() {
		wantOpen(t, api.Box{Under: bad, Load: good}, good, api.Key{}, api.ErrKey)
		wantOpen(t, api.Box{Under: bad, Load: good}, bad, api.Key{}, api.ErrKey)
		wantOpen(t, api.Box{Under: good, Load: bad}, good, api.Key{}, api.ErrKey)
		wantOpen(t, api.Box{Under: good, Load: bad}, k(8, 5), api.Key{}, api.ErrKey)
		wantOpen(t, api.Box{Under: good, Load: good}, bad, api.Key{}, api.ErrKey)
		wantOpen(t, api.Box{Under: bad, Load: bad}, bad, api.Key{}, api.ErrKey)
	}
	wantOpen(t, api.Box{}, api.Key{}, api.Key{}, api.ErrKey)
}

// leastOf looks, for each Base there is, through the whole list.
func leastOf(list []api.Key) []api.Key {
	var answer []api.Key
	for _, x := range list {
		least := within(x)
		for _, y := range list {
			if within(y) && y.Base == x.Base && y.Step < x.Step {
				least = false
			}
		}
		if least && !slices.Contains(answer, x) {
			answer = append(answer, x)
		}
	}
	slices.SortFunc(answer, func(x, y api.Key) int { return sign(x.Base, y.Base) })
	return answer
}

func wantLeast(t *testing.T, list, want []api.Key) {
	t.Helper()
	if got := key.Least(list); !slices.Equal(got, want) {
		t.Errorf("Least(%v) = %v, want %v", list, got, want)
	}
}

// P2.5: Least of the named lists.
func TestLeast(t *testing.T) {
	wantLeast(t, []api.Key{k(7, 5), k(2, 1), k(7, 3), k(0, 0)}, []api.Key{k(2, 1), k(7, 3)})
	wantLeast(t, nil, nil)
	wantLeast(t, []api.Key{}, nil)
	wantLeast(t, bads(), nil)
	wantLeast(t, []api.Key{k(65535, 255)}, []api.Key{k(65535, 255)})
	wantLeast(t, []api.Key{k(65535, 255), k(1, 0), k(65535, 255), k(1, 0)}, []api.Key{k(1, 0), k(65535, 255)})
	wantLeast(t, []api.Key{k(7, -1), k(7, 3), k(7, 256), k(7, math.MinInt)}, []api.Key{k(7, 3)})
	wantLeast(t, all(), leastOf(all()))
}

// P2.5: Least of many lists: each good key is given by just one of the answer, and order and doubles aren't seen.
func TestLeastOfMany(t *testing.T) {
	chance := rand.New(rand.NewSource(25))
	for range 3000 {
		list := make([]api.Key, chance.Intn(40))
		for i := range list {
			list[i] = k(chance.Intn(12)-1, chance.Intn(10)-1)
			if chance.Intn(4) == 0 {
				list[i] = all()[chance.Intn(len(all()))]
			}
		}
		want := leastOf(list)
		wantLeast(t, list, want)
		for _, x := range list {
			givers := 0
			for _, y := range want {
				if key.Gives(y, x) {
					givers++
				}
			}
			if within(x) != (givers == 1) || givers > 1 {
				t.Fatalf("%v of %v is given by %d keys of %v", x, list, givers, want)
			}
		}
		other := append(slices.Clone(list), list...)
		chance.Shuffle(len(other), func(i, j int) { other[i], other[j] = other[j], other[i] })
		wantLeast(t, other, want)
	}
}

// R5: the list that was handed in stays, spare room too; the answer is memory of its own.
func TestLeastShares(t *testing.T) {
	room := []api.Key{k(7, 5), k(2, 1), k(7, 3), k(9, 9), k(0, 4), k(5, 5)}
	list := room[:4]
	before := slices.Clone(room)
	first := key.Least(list)
	second := key.Least(list)
	if !slices.Equal(room, before) {
		t.Errorf("Least changed the list: %v", room)
	}
	for i := range first[:cap(first)] {
		first[:cap(first)][i] = k(99, 99)
	}
	if want := []api.Key{k(2, 1), k(7, 3), k(9, 9)}; !slices.Equal(second, want) || !slices.Equal(room, before) {
		t.Errorf("the answers share memory: %v, %v", second, room)
	}
}

// R6: a long list with many names is told in one order, ask by ask.
func TestLeastAgain(t *testing.T) {
	var list, want []api.Key
	for base := 65535; base >= 1; base -= 7 {
		list = append(list, k(base, 200), k(base, base%200), k(base, 255))
		want = append(want, k(base, base%200))
	}
	slices.Reverse(want)
	for range 3 {
		if got := key.Least(list); !slices.Equal(got, want) {
			t.Fatal("Least of a long list isn't rising by Base")
		}
	}
}
