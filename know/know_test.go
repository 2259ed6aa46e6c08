package know_test

import (
	"cmp"
	"math"
	"math/rand"
	"slices"
	"strings"
	"testing"

	"coterie/api"
	"coterie/data"
	"coterie/keytree"
	"coterie/know"
	"coterie/plan"
	"coterie/recovery"
	"coterie/wire"
)

func k(base, step int) api.Key { return api.Key{Base: base, Step: step} }

func box(under, load api.Key) api.Box { return api.Box{Under: under, Load: load} }

func sealed(epoch int, under api.Key, text string) api.Sealed {
	return api.Sealed{Epoch: epoch, Under: under, Text: text}
}

// The kinds of a thing that comes to an object.
const (
	aKey = iota
	aBox
	aText
)

// thing is a key that is told, or a box or a sealed text that is seen.
type thing struct {
	kind int
	key  api.Key
	box  api.Box
	text api.Sealed
}

func told(x api.Key) thing { return thing{kind: aKey, key: x} }

func seen(under, load api.Key) thing { return thing{kind: aBox, box: box(under, load)} }

func read(s api.Sealed) thing { return thing{kind: aText, text: s} }

// bring lets the things come to the object, one behind the other.
func bring(o *know.Know, things ...thing) *know.Know {
	for _, one := range things {
		switch one.kind {
		case aKey:
			o.Learn(one.key)
		case aBox:
			o.See(one.box)
		case aText:
			o.SeeSealed(one.text)
		}
	}
	return o
}

// of is a new object to which the things came.
func of(things ...thing) *know.Know { return bring(know.New(), things...) }

func within(n, least, most int) bool { return least <= n && n <= most }

func modelKey(x api.Key) bool { return within(x.Base, 1, 65535) && within(x.Step, 0, 255) }

func modelBox(b api.Box) bool { return modelKey(b.Under) && modelKey(b.Load) }

func modelText(s api.Sealed) bool {
	return within(s.Epoch, 1, 200) && modelKey(s.Under) && len(s.Text) < 65
}

// model is a plain closing of sets: of the server's names each single key that is had, and what was seen.
type model struct {
	keys  map[api.Key]struct{}
	boxes []api.Box
	texts []api.Sealed
}

// modelOf goes through all the things again and again, till nothing more comes of them.
func modelOf(things ...thing) model {
	m := model{keys: map[api.Key]struct{}{}}
	for more := true; more; {
		more = false
		for _, one := range things {
			switch {
			case one.kind == aKey && modelKey(one.key):
				more = m.put(one.key) || more
			case one.kind == aBox && modelBox(one.box) && m.has(one.box.Under):
				more = m.put(one.box.Load) || more
			}
		}
	}
	for _, one := range things {
		if one.kind == aBox && modelBox(one.box) {
			m.boxes = append(m.boxes, one.box)
		}
		if one.kind == aText && modelText(one.text) {
			m.texts = append(m.texts, one.text)
		}
	}
	return m
}

// put has the key and all its later steps put in, and tells whether one is new.
func (m model) put(x api.Key) bool {
	if m.has(x) {
		return false
	}
	for step := x.Step; step < 256; step++ {
		m.keys[k(x.Base, step)] = struct{}{}
	}
	return true
}

func (m model) has(x api.Key) bool {
	_, in := m.keys[x]
	return in || modelKey(x) && x.Base > 32767
}

func (m model) makes(b api.Box) bool {
	return slices.Contains(m.boxes, b) || m.has(b.Under) && m.has(b.Load)
}

func (m model) makesText(s api.Sealed) bool {
	return slices.Contains(m.texts, s) || modelText(s) && m.has(s.Under)
}

// least has of each name the key with nothing ahead of it.
func (m model) least() []api.Key {
	var list []api.Key
	for x := range m.keys {
		if _, in := m.keys[k(x.Base, x.Step-1)]; !in {
			list = append(list, x)
		}
	}
	slices.SortFunc(list, func(a, b api.Key) int { return cmp.Compare(a.Base, b.Base) })
	return list
}

// names are few, so that drawn things have much to do with one another; some are the adversary's own, and some are none.
func names() []int { return []int{1, 2, 3, 4, 32766, 32767, 32768, 32769, 65535} }

func noNames() []int {
	return []int{0, -1, 65536, 65537, -32768, 1<<32 + 1, -1<<32 + 1, math.MinInt, math.MaxInt}
}

func steps() []int { return []int{0, 1, 2, 3, 254, 255} }

func noSteps() []int { return []int{-1, 256, 257, -256, 1 << 32, -1 << 32, math.MinInt, math.MaxInt} }

// probeKeys are good ones and others, all of few names and steps.
func probeKeys() []api.Key {
	var list []api.Key
	for _, base := range []int{0, 1, 2, 3, 32767, 32768, 65535, 65536} {
		for _, step := range []int{-1, 0, 1, 3, 255, 256} {
			list = append(list, k(base, step))
		}
	}
	return list
}

func probeTexts() []api.Sealed {
	var list []api.Sealed
	for _, under := range []api.Key{k(1, 0), k(1, 1), k(2, 0), k(3, 255), k(32767, 2), k(32768, 0), k(40000, 3), k(65535, 255), k(0, 0), k(1, 256), k(65536, 0), k(2, -1)} {
		for _, epoch := range []int{0, 1, 2, 200, 201} {
			list = append(list, sealed(epoch, under, ""), sealed(epoch, under, "a"), sealed(epoch, under, strings.Repeat("b", 64)), sealed(epoch, under, strings.Repeat("b", 65)))
		}
	}
	return list
}

// wantAs: P19.1: the object answers as the model of the things, at all steps of the names that the tests draw, and at whatever stands in a thing.
func wantAs(t *testing.T, o *know.Know, things ...thing) model {
	t.Helper()
	m := modelOf(things...)
	if got := o.Keys(); !slices.Equal(got, m.least()) {
		t.Fatalf("Keys %v, want %v", got, m.least())
	}
	for _, base := range append(names(), noNames()...) {
		for step := -2; step < 259; step++ {
			if x := k(base, step); o.Has(x) != m.has(x) {
				t.Fatalf("Has(%v) %v", x, o.Has(x))
			}
		}
		for _, step := range noSteps() {
			if x := k(base, step); o.Has(x) {
				t.Fatalf("Has(%v)", x)
			}
		}
	}
	for _, one := range things {
		wantThing(t, o, m, one)
	}
	return m
}

// wantThing: what is asked of a thing, and of others that are near to it, is answered as the model does.
func wantThing(t *testing.T, o *know.Know, m model, one thing) {
	t.Helper()
	keys := []api.Key{one.key, one.box.Under, one.box.Load, one.text.Under}
	for _, x := range keys {
		if o.Has(x) != m.has(x) {
			t.Fatalf("Has(%v) %v", x, o.Has(x))
		}
	}
	u, l := one.box.Under, one.box.Load
	for _, b := range []api.Box{one.box, box(l, u), box(u, k(l.Base, l.Step+1)), box(k(u.Base, u.Step+1), l), box(k(u.Base, u.Step-1), l), box(u, k(l.Base+1, l.Step))} {
		if o.Makes(b) != m.makes(b) {
			t.Fatalf("Makes(%v) %v", b, o.Makes(b))
		}
	}
	s := one.text
	for _, near := range []api.Sealed{s, sealed(s.Epoch+1, s.Under, s.Text), sealed(s.Epoch, k(s.Under.Base, s.Under.Step+1), s.Text), sealed(s.Epoch, s.Under, s.Text+"a")} {
		if o.MakesSealed(near) != m.makesText(near) {
			t.Fatalf("MakesSealed of %d, %v, %d bytes: %v", near.Epoch, near.Under, len(near.Text), o.MakesSealed(near))
		}
	}
}

// wantProbes: P19.1: of pairs of keys, and of texts, just those are made that the model makes.
func wantProbes(t *testing.T, o *know.Know, m model) {
	t.Helper()
	for _, under := range probeKeys() {
		for _, load := range probeKeys() {
			if b := box(under, load); o.Makes(b) != m.makes(b) {
				t.Fatalf("Makes(%v) %v", b, o.Makes(b))
			}
		}
	}
	for _, s := range probeTexts() {
		if o.MakesSealed(s) != m.makesText(s) {
			t.Fatalf("MakesSealed of %d, %v, %d bytes: %v", s.Epoch, s.Under, len(s.Text), o.MakesSealed(s))
		}
	}
}

// shown is all that the tests ask of an object, as a row of digits.
func shown(o *know.Know) string {
	var row strings.Builder
	say := func(yes bool) {
		if yes {
			row.WriteByte('1')
		} else {
			row.WriteByte('0')
		}
	}
	for _, base := range names() {
		for step := -1; step < 257; step++ {
			say(o.Has(k(base, step)))
		}
	}
	for _, under := range probeKeys() {
		for _, load := range probeKeys() {
			say(o.Makes(box(under, load)))
		}
	}
	for _, s := range probeTexts() {
		say(o.MakesSealed(s))
	}
	for _, x := range o.Keys() {
		for step := range x.Step + 1 {
			say(step == x.Step)
		}
	}
	return row.String()
}

// draw is how a row's things are drawn: of so many, how often a key comes, and how often something that isn't good.
type draw struct {
	chance    *rand.Rand
	keys, bad int
}

func pick(chance *rand.Rand, list []int) int { return list[chance.Intn(len(list))] }

func (d draw) drawnKey() api.Key {
	x := k(pick(d.chance, names()), pick(d.chance, steps()))
	if d.chance.Intn(100) < d.bad {
		x.Base = pick(d.chance, noNames())
	}
	if d.chance.Intn(100) < d.bad {
		x.Step = pick(d.chance, noSteps())
	}
	return x
}

// serverKey is mostly one of the server's names, for else nearly every box would be open at once.
func (d draw) serverKey() api.Key {
	x := d.drawnKey()
	if d.chance.Intn(8) > 0 && x.Base > 32767 {
		x.Base = 1 + d.chance.Intn(4)
	}
	return x
}

func (d draw) thing() thing {
	switch n := d.chance.Intn(100); {
	case n < d.keys:
		return told(d.serverKey())
	case n < 80:
		return seen(d.serverKey(), d.serverKey())
	}
	texts := probeTexts()
	return read(texts[d.chance.Intn(len(texts))])
}

func (d draw) things(n int) []thing {
	var list []thing
	for range n {
		list = append(list, d.thing())
	}
	return list
}

// drawOf has another rate of keys for each number.
func drawOf(seed int64) draw {
	return draw{chance: rand.New(rand.NewSource(seed)), keys: 3 + int(seed%4)*8, bad: int(seed%3) * 5}
}

// example 1.
func TestTold(t *testing.T) {
	o := know.New()
	if !o.Has(k(40000, 3)) || o.Has(k(1, 0)) || len(o.Keys()) != 0 {
		t.Error("a new one")
	}
	o.Learn(k(5, 2))
	if !o.Has(k(5, 2)) || !o.Has(k(5, 9)) || o.Has(k(5, 1)) {
		t.Error("told {5 2}")
	}
	if got := o.Keys(); !slices.Equal(got, []api.Key{k(5, 2)}) {
		t.Error(got)
	}
}

// examples 2 and 3.
func TestOpened(t *testing.T) {
	behind := of(seen(k(6, 1), k(7, 0)))
	if behind.Has(k(7, 0)) || behind.Has(k(7, 255)) || len(behind.Keys()) != 0 {
		t.Error("opened by nothing")
	}
	behind.Learn(k(6, 0))
	for _, o := range []*know.Know{behind, of(told(k(6, 0)), seen(k(6, 1), k(7, 0)))} {
		if !o.Has(k(7, 0)) || !o.Has(k(7, 3)) || !slices.Equal(o.Keys(), []api.Key{k(6, 0), k(7, 0)}) {
			t.Error("not opened", o.Keys())
		}
	}
	own := of(seen(k(40000, 0), k(8, 4)))
	if !own.Has(k(8, 4)) || own.Has(k(8, 3)) || !slices.Equal(own.Keys(), []api.Key{k(8, 4)}) {
		t.Error("under a name of its own", own.Keys())
	}
}

// example 4.
func TestMade(t *testing.T) {
	o := know.New()
	want := func(b api.Box, yes bool) {
		t.Helper()
		if o.Makes(b) != yes {
			t.Errorf("Makes(%v) %v", b, !yes)
		}
	}
	first, second := box(k(6, 1), k(7, 0)), box(k(6, 2), k(7, 0))
	want(first, false)
	want(box(k(40000, 0), k(40001, 5)), true)
	want(box(k(0, 0), k(1, 0)), false)
	o.See(first)
	want(first, true)
	want(second, false)
	o.Learn(k(7, 0))
	want(second, false)
	o.Learn(k(6, 2))
	want(second, true)
	want(box(k(7, 0), k(6, 2)), true)
	want(box(k(6, 1), k(7, 1)), false)
	want(box(k(40000, 0), k(40001, 5)), true)
	want(box(k(0, 0), k(1, 0)), false)
}

// P19.1: rows of calls, with good things and with others, held against the model behind each call.
func TestRows(t *testing.T) {
	late, shut, own := 0, 0, 0
	for seed := range int64(120) {
		d := drawOf(seed)
		o := know.New()
		var things []thing
		for range 25 {
			one := d.thing()
			before := modelOf(things...)
			bring(o, one)
			things = append(things, one)
			after := wantAs(t, o, things...)
			if one.kind == aKey && len(after.least()) > len(before.least())+1 {
				late++
			}
			if one.kind == aBox && modelBox(one.box) && !after.has(one.box.Under) {
				shut++
			}
			if one.kind == aBox && modelBox(one.box) && one.box.Under.Base > 32767 {
				own++
			}
		}
		wantProbes(t, o, modelOf(things...))
	}
	if late < 20 || shut < 300 || own < 50 {
		t.Errorf("only %d keys opened boxes, %d boxes stayed shut, %d were under its own names", late, shut, own)
	}
}

// P19.1: asking changes nothing, and what is asked twice is answered the same; a copy's answers are those of what it was taken of.
func TestAsking(t *testing.T) {
	for seed := range int64(12) {
		d := drawOf(1000 + seed)
		things := d.things(30)
		quiet, asked := know.New(), know.New()
		for _, one := range things {
			bring(quiet, one)
			bring(asked, one)
			if first := shown(asked); first != shown(asked) || first != shown(asked.Copy()) {
				t.Fatal("asked again it answers otherwise")
			}
		}
		if shown(quiet) != shown(asked) {
			t.Fatal("asking has changed something")
		}
		wantAs(t, asked, things...)
	}
}

// P19.1, R1: keys at and beyond each bound, each told to a new object.
func TestEachKey(t *testing.T) {
	good := 0
	for _, base := range append(noNames(), 1, 2, 255, 256, 32766, 32767, 32768, 32769, 65534, 65535, 1<<31-1, 1<<31, -1<<31) {
		for _, step := range append(noSteps(), 0, 1, 2, 127, 128, 254, 255, 1<<31, -1<<31) {
			x := k(base, step)
			o := of(told(x))
			m := modelOf(told(x))
			if !slices.Equal(o.Keys(), m.least()) || o.Has(x) != m.has(x) || o.Has(x) != modelKey(x) {
				t.Fatal(x, o.Keys(), o.Has(x))
			}
			if step > 0 && step <= 255 && o.Has(k(base, step-1)) != m.has(k(base, step-1)) {
				t.Fatal("a step ahead of", x)
			}
			if modelKey(x) {
				good++
			}
		}
	}
	if good != 10*7 {
		t.Error(good)
	}
}

// P19.1: every name, told at one step.
func TestEachName(t *testing.T) {
	o := know.New()
	for base := 65537; base > -3; base-- {
		o.Learn(k(base, base&255))
	}
	if list := o.Keys(); len(list) != 32767 {
		t.Fatal(len(list))
	}
	for i, x := range o.Keys() {
		if x != k(i+1, (i+1)&255) {
			t.Fatal(i, x)
		}
	}
	for base := -3; base < 65538; base++ {
		step := base & 255
		if want := within(base, 1, 65535); o.Has(k(base, step)) != want || o.Has(k(base, 255)) != want {
			t.Fatal(base)
		}
		if want := within(base, 32768, 65535) && step > 0; o.Has(k(base, step-1)) != want {
			t.Fatal(base, "a step ahead")
		}
	}
}

// P19.1: what was told at several steps is had from the least on, in whatever order they come.
func TestLeastStep(t *testing.T) {
	o := know.New()
	least := 256
	for _, step := range []int{200, 255, 201, 100, 150, 99, 100, 1, 2, 0, 255} {
		o.Learn(k(9, step))
		least = min(least, step)
		if got := o.Keys(); !slices.Equal(got, []api.Key{k(9, least)}) {
			t.Fatal(step, got)
		}
		if !o.Has(k(9, least)) || o.Has(k(9, least-1)) || !o.Has(k(9, 255)) || o.Has(k(9, 256)) {
			t.Fatal(step)
		}
	}
}

// P19.1: what isn't good or not right is passed over: nothing is had of it, and nothing is made, not even what it was.
func TestPassedOver(t *testing.T) {
	var things []thing
	for _, x := range probeKeys() {
		if modelKey(x) {
			continue
		}
		things = append(things, told(x), seen(x, k(1, 0)), seen(k(40000, 0), x), seen(x, x))
	}
	for _, s := range probeTexts() {
		if !modelText(s) {
			things = append(things, read(s))
		}
	}
	if len(things) < 100 {
		t.Fatal(len(things))
	}
	empty := shown(know.New())
	o := know.New()
	for _, one := range things {
		bring(o, one)
		if one.kind == aBox && o.Makes(one.box) || one.kind == aText && o.MakesSealed(one.text) || one.kind == aKey && o.Has(one.key) {
			t.Fatalf("not passed over: %v %v", one.key, one.box)
		}
	}
	if shown(o) != empty || len(o.Keys()) != 0 {
		t.Error("something was kept", o.Keys())
	}
	// Also where much is had, what isn't good isn't made.
	full := of(append(things, told(k(1, 0)), told(k(2, 0)), told(k(3, 0)), told(k(32767, 0)))...)
	wantAs(t, full, told(k(1, 0)), told(k(2, 0)), told(k(3, 0)), told(k(32767, 0)))
	wantProbes(t, full, modelOf(told(k(1, 0)), told(k(2, 0)), told(k(3, 0)), told(k(32767, 0))))
}

// P19.1: a box whose Under is had at a later step stays shut, till a lesser key comes, told or out of another box.
func TestLesserKey(t *testing.T) {
	o := of(told(k(6, 5)), seen(k(6, 3), k(7, 9)))
	for _, step := range []int{255, 5, 4} {
		o.Learn(k(6, step))
		if o.Has(k(7, 255)) {
			t.Fatal("opened by the step", step)
		}
	}
	fork := o.Copy()
	o.Learn(k(6, 3))
	if !o.Has(k(7, 9)) || o.Has(k(7, 8)) {
		t.Error("not opened by the key itself")
	}
	fork.See(box(k(8, 0), k(6, 2)))
	if fork.Has(k(7, 9)) {
		t.Error("opened by a box that is shut")
	}
	fork.Learn(k(8, 0))
	if !fork.Has(k(7, 9)) || !slices.Equal(fork.Keys(), []api.Key{k(6, 2), k(7, 9), k(8, 0)}) {
		t.Error("not opened out of another box", fork.Keys())
	}
}

// P19.1: the bounds of a name's steps: the first and the last one open boxes like any other.
func TestEdgeSteps(t *testing.T) {
	for _, c := range []struct {
		had, under int
		want       bool
	}{{255, 255, true}, {255, 254, false}, {254, 255, true}, {0, 255, true}, {0, 0, true}, {1, 0, false}} {
		for _, o := range []*know.Know{of(told(k(6, c.had)), seen(k(6, c.under), k(7, 0))), of(seen(k(6, c.under), k(7, 0)), told(k(6, c.had)))} {
			if o.Has(k(7, 0)) != c.want {
				t.Errorf("%+v", c)
			}
		}
		if o := of(seen(k(6, c.under), k(7, 0)), told(k(6, c.had)), told(k(6, 0))); !o.Has(k(7, 0)) {
			t.Errorf("%+v, and then {6 0}", c)
		}
	}
}

// P19.1: several boxes under one key, and under each step of one name: just those from the had step on open.
func TestManyUnderOne(t *testing.T) {
	for _, order := range []bool{true, false} {
		o := know.New()
		tell := func() { o.Learn(k(1, 100)) }
		if order {
			tell()
		}
		for step := range 256 {
			o.See(box(k(1, step), k(1000+step, 7)))
			o.See(box(k(1, step), k(2000+step, 8)))
		}
		if !order {
			tell()
		}
		for _, least := range []int{100, 99, 40, 0} {
			o.Learn(k(1, least))
			for step := range 256 {
				want := step >= least
				if o.Has(k(1000+step, 7)) != want || o.Has(k(2000+step, 8)) != want || o.Has(k(1000+step, 6)) || o.Has(k(2000+step, 7)) {
					t.Fatal(order, least, step)
				}
			}
		}
	}
}

// chain is boxes of which each opens the next, the first one under {1 0}.
func chain(n int) []thing {
	var list []thing
	for i := 1; i <= n; i++ {
		list = append(list, seen(k(i, i%3), k(i+1, 0)))
	}
	return list
}

// P19.1: rows of boxes of which each opens the next: seen from the first or from the last on, ahead of the key and behind it.
func TestChains(t *testing.T) {
	for _, n := range []int{1, 2, 3, 10, 300} {
		forth := chain(n)
		back := slices.Clone(forth)
		slices.Reverse(back)
		key := told(k(1, 0))
		for i, things := range [][]thing{append(slices.Clone(forth), key), append(slices.Clone(back), key), append([]thing{key}, forth...), append([]thing{key}, back...)} {
			o := of(things...)
			if list := o.Keys(); len(list) != n+1 || list[n] != k(n+1, 0) {
				t.Fatal(n, i, len(list))
			}
		}
		// Without the key nothing opens, and a key in the midst opens just what stands behind it.
		half := of(append(back, told(k(n/2+1, 0)))...)
		if list := half.Keys(); len(list) != n+1-n/2 || list[0] != k(n/2+1, 0) || of(forth...).Has(k(2, 255)) {
			t.Fatal(n, len(list))
		}
	}
}

// P19.1: where one box in the midst of a row lacks, nothing behind it opens till it comes.
func TestBrokenChain(t *testing.T) {
	for gap := range 12 {
		things := chain(12)
		lacks := things[gap]
		o := of(append(slices.Delete(things, gap, gap+1), told(k(1, 0)))...)
		if list := o.Keys(); len(list) != gap+1 {
			t.Fatal(gap, list)
		}
		if bring(o, lacks); len(o.Keys()) != 13 {
			t.Fatal(gap, "stays shut", o.Keys())
		}
	}
}

// P19.1, P19.4: boxes in a circle give nothing by themselves; one key of the circle opens all of it.
func TestCircles(t *testing.T) {
	for n := 1; n < 8; n++ {
		var circle []thing
		for i := range n {
			circle = append(circle, seen(k(i+1, 2), k((i+1)%n+1, 2)))
		}
		for start := range n {
			o := of(circle...)
			if len(o.Keys()) != 0 || o.Has(k(1, 255)) {
				t.Fatal(n, "out of nothing", o.Keys())
			}
			o.Learn(k(start+1, 3))
			if !slices.Equal(o.Keys(), []api.Key{k(start+1, 3)}) {
				t.Fatal(n, start, "by a later step", o.Keys())
			}
			o.Learn(k(start+1, 2))
			if len(o.Keys()) != n {
				t.Fatal(n, start, o.Keys())
			}
			for _, x := range o.Keys() {
				if x.Step != 2 {
					t.Fatal(n, start, x)
				}
			}
		}
	}
}

// P19.1: a circle may lead to lesser steps of the key with which it began, and these open what was shut.
func TestSpiral(t *testing.T) {
	things := []thing{seen(k(1, 0), k(5, 1))}
	for step := 255; step > 0; step-- {
		things = append(things, seen(k(1, step), k(2, step-1)), seen(k(2, step-1), k(1, step-1)))
	}
	want := []api.Key{k(1, 0), k(2, 0), k(5, 1)}
	for _, back := range []bool{false, true} {
		list := slices.Clone(things)
		if back {
			slices.Reverse(list)
		}
		if got := of(append(list, told(k(1, 255)))...).Keys(); !slices.Equal(got, want) {
			t.Error("the key comes last", back, got)
		}
		if got := of(append([]thing{told(k(1, 255))}, list...)...).Keys(); !slices.Equal(got, want) {
			t.Error("the key comes first", back, got)
		}
	}
}

// P19.1: names from OwnBase on are had at all steps: boxes under them are open at once, and keys of them in boxes or told change nothing.
func TestOwnNames(t *testing.T) {
	for _, base := range []int{32768, 32769, 40000, 65534, 65535} {
		for _, step := range steps() {
			o := of(seen(k(base, step), k(7, 3)))
			if !o.Has(k(7, 3)) || o.Has(k(7, 2)) {
				t.Error("shut under", base, step)
			}
			o = of(told(k(base, step)), seen(k(7, 3), k(base, step)))
			if len(o.Keys()) != 0 || !o.Has(k(base, 0)) || !o.Has(k(base, 255)) || o.Has(k(base, -1)) || o.Has(k(base, 256)) || o.Has(k(7, 255)) {
				t.Error("told", base, step, o.Keys())
			}
		}
	}
	o := of(seen(k(32767, 0), k(7, 3)))
	if o.Has(k(7, 3)) || o.Has(k(32767, 255)) {
		t.Error("32767 is the server's")
	}
	if o = of(seen(k(65536, 0), k(7, 3)), seen(k(0, 0), k(7, 3)), seen(k(40000, 256), k(7, 3)), seen(k(40000, -1), k(7, 3))); len(o.Keys()) != 0 {
		t.Error("opened by what is no key", o.Keys())
	}
}

// P19.1: a sealed text that is seen is made as it is, and gives no key; others under a key are made once that is had.
func TestTexts(t *testing.T) {
	s := sealed(7, k(6, 1), "a")
	others := []api.Sealed{sealed(8, k(6, 1), "a"), sealed(7, k(6, 2), "a"), sealed(7, k(6, 1), "b"), sealed(7, k(6, 1), ""), sealed(7, k(6, 1), "a\x00"), sealed(7, k(6, 1), "A")}
	o := know.New()
	if o.MakesSealed(s) {
		t.Error("made ahead of being seen")
	}
	o.SeeSealed(s)
	if !o.MakesSealed(s) || o.Has(k(6, 1)) || len(o.Keys()) != 0 || o.Makes(box(k(6, 1), k(6, 1))) {
		t.Error("seen", o.Keys())
	}
	for _, x := range others {
		if o.MakesSealed(x) {
			t.Error("made like", x)
		}
	}
	o.Learn(k(6, 2))
	if o.MakesSealed(others[0]) || !o.MakesSealed(others[1]) {
		t.Error("made under a later key alone")
	}
	o.See(box(k(40000, 0), k(6, 0)))
	for _, x := range append(others, s, sealed(1, k(6, 0), ""), sealed(200, k(6, 255), strings.Repeat("\xff", 64))) {
		if !o.MakesSealed(x) {
			t.Error("not made", x.Epoch, x.Under)
		}
	}
}

// P19.1, R7: texts are told apart by their bytes.
func TestTextsAreBytes(t *testing.T) {
	texts := []string{"", "\x00", "é", "e\u0301", "\xff", "\ufffd", "a", "a ", strings.Repeat("€", 21), strings.Repeat("x", 64)}
	for i, one := range texts {
		o := of(read(sealed(1, k(1, 1), one)))
		for j, other := range texts {
			if o.MakesSealed(sealed(1, k(1, 1), other)) != (i == j) {
				t.Error(i, j)
			}
		}
	}
	// 22 letters of three bytes each are 66 bytes.
	long := sealed(1, k(40000, 1), strings.Repeat("€", 22))
	if o := of(read(long)); o.MakesSealed(long) {
		t.Error("66 bytes are taken")
	}
}

// P19.1: right sealed texts are just those that a right message may have (chapter 14).
func TestRightTexts(t *testing.T) {
	right := 0
	for _, epoch := range []int{math.MinInt, -1, 0, 1, 2, 100, 199, 200, 201, 256, 257, 1 << 32, 1<<32 + 1, math.MaxInt} {
		for _, base := range append(noNames(), 32768, 40000, 65535) {
			for _, step := range append(noSteps(), 0, 255) {
				for _, n := range []int{0, 1, 63, 64, 65, 66, 128, 300} {
					s := sealed(epoch, k(base, step), strings.Repeat("x", n))
					want := wire.Good(api.Message{Kind: api.KindData, Sealed: s})
					if know.New().MakesSealed(s) != want || of(read(s)).MakesSealed(s) != want {
						t.Fatal(epoch, base, step, n, want)
					}
					if want {
						right++
					}
				}
			}
		}
	}
	if right != 5*3*2*4 {
		t.Error(right)
	}
}

// P19.1: what is made of a pair of keys, ahead of each of the two and behind it.
func TestMadeOfPairs(t *testing.T) {
	a, b := k(3, 4), k(5, 6)
	for _, first := range []bool{true, false} {
		o := know.New()
		x, y := a, b
		if !first {
			x, y = b, a
		}
		if o.Makes(box(a, b)) || o.Makes(box(b, a)) || o.Makes(box(a, a)) {
			t.Error("of nothing")
		}
		o.Learn(x)
		if o.Makes(box(a, b)) || o.Makes(box(b, a)) || !o.Makes(box(x, x)) || o.Makes(box(y, y)) || !o.Makes(box(x, k(40000, 0))) || !o.Makes(box(k(40000, 0), x)) || o.Makes(box(k(40000, 0), y)) || o.Makes(box(y, k(40000, 0))) {
			t.Error("of one")
		}
		o.Learn(y)
		if !o.Makes(box(a, b)) || !o.Makes(box(b, a)) || !o.Makes(box(k(3, 9), k(5, 255))) || o.Makes(box(k(3, 3), b)) || o.Makes(box(a, k(5, 5))) {
			t.Error("of both")
		}
	}
	// A box is made as it was seen, though neither of its keys is had; the same keys the other way about aren't.
	o := of(seen(a, b))
	if !o.Makes(box(a, b)) || o.Makes(box(b, a)) || o.Makes(box(a, k(5, 7))) || o.Has(a) || o.Has(b) {
		t.Error("seen")
	}
}

// P19.2: each order of a few things, with some of them several times, comes to the same.
func TestNoOrder(t *testing.T) {
	sets := [][]thing{
		{told(k(1, 0)), seen(k(1, 2), k(2, 1)), seen(k(2, 1), k(3, 0)), seen(k(3, 3), k(32767, 2)), read(sealed(1, k(1, 0), ""))},
		{told(k(1, 3)), seen(k(1, 3), k(2, 0)), seen(k(2, 3), k(1, 1)), seen(k(1, 1), k(3, 255)), seen(k(3, 255), k(1, 0))},
		{seen(k(32768, 0), k(1, 3)), told(k(1, 1)), seen(k(1, 1), k(2, 2)), seen(k(2, 0), k(3, 0)), told(k(2, 3))},
		{told(k(0, 0)), seen(k(1, 256), k(2, 0)), seen(k(1, 0), k(2, 0)), told(k(1, 0)), read(sealed(201, k(1, 0), "a"))},
	}
	for seed := range int64(6) {
		sets = append(sets, drawOf(2000+seed).things(5))
	}
	for i, set := range sets {
		want := shown(of(set...))
		wantAs(t, of(set...), set...)
		count := 0
		eachOrder(set, 0, func(list []thing) {
			count++
			if shown(of(list...)) != want {
				t.Fatalf("set %d in another order: %v", i, of(list...).Keys())
			}
			double := append(slices.Clone(list), list[count%5], list[count%3], list[4])
			if shown(of(double...)) != want {
				t.Fatalf("set %d, some twice: %v", i, of(double...).Keys())
			}
		})
		if count != 120 {
			t.Fatal(count)
		}
	}
}

// eachOrder calls look with each order of the list, from the place at on.
func eachOrder(list []thing, at int, look func([]thing)) {
	if at == len(list) {
		look(list)
		return
	}
	for i := at; i < len(list); i++ {
		list[at], list[i] = list[i], list[at]
		eachOrder(list, at+1, look)
		list[at], list[i] = list[i], list[at]
	}
}

// P19.2, P11: long rows in drawn orders, with drawn doubles.
func TestNoOrderOfMany(t *testing.T) {
	for seed := range int64(25) {
		d := drawOf(3000 + seed)
		things := d.things(40)
		want := shown(of(things...))
		wantAs(t, of(things...), things...)
		for range 6 {
			list := slices.Clone(things)
			for range d.chance.Intn(20) {
				list = append(list, list[d.chance.Intn(len(list))])
			}
			d.chance.Shuffle(len(list), func(i, j int) { list[i], list[j] = list[j], list[i] })
			if shown(of(list...)) != want {
				t.Fatalf("seed %d: another order comes to %v", seed, of(list...).Keys())
			}
		}
	}
}

// P19.2: telling what it has, and seeing what it makes of what it has, changes nothing.
func TestNothingNew(t *testing.T) {
	again := 0
	for seed := range int64(10) {
		d := drawOf(4000 + seed)
		o := of(d.things(40)...)
		want := shown(o)
		for _, x := range probeKeys() {
			if o.Has(x) {
				o.Learn(x)
				again++
			}
			if y := probeKeys()[d.chance.Intn(len(probeKeys()))]; o.Makes(box(x, y)) {
				o.See(box(x, y))
				again++
			}
		}
		for _, s := range probeTexts() {
			if o.MakesSealed(s) {
				o.SeeSealed(s)
				again++
			}
		}
		if shown(o) != want {
			t.Fatal(seed, "changed by what it had")
		}
	}
	if again < 500 {
		t.Errorf("only %d told again", again)
	}
}

// P19.3: whatever comes, nothing is lost.
func TestNothingLost(t *testing.T) {
	for seed := range int64(40) {
		d := drawOf(5000 + seed)
		o := know.New()
		before := o.Copy()
		for range 40 {
			bring(o, d.thing())
			for _, x := range probeKeys() {
				if before.Has(x) && !o.Has(x) {
					t.Fatal("lost", x)
				}
				for _, y := range probeKeys() {
					if before.Makes(box(x, y)) && !o.Makes(box(x, y)) {
						t.Fatal("lost", x, y)
					}
				}
			}
			for _, s := range probeTexts() {
				if before.MakesSealed(s) && !o.MakesSealed(s) {
					t.Fatal("lost", s.Epoch, s.Under, len(s.Text))
				}
			}
			before = o.Copy()
		}
	}
}

// P19.4: each key that is had was told, or is given by what was told, or by the Load of a box whose Under is had without that box.
func TestLeast(t *testing.T) {
	byTold, byBox := 0, 0
	for seed := range int64(60) {
		things := drawOf(6000 + seed).things(25)
		for _, x := range of(things...).Keys() {
			if slices.ContainsFunc(things, func(one thing) bool {
				return one.kind == aKey && one.key.Base == x.Base && one.key.Step <= x.Step && modelKey(one.key)
			}) {
				byTold++
				continue
			}
			if !hasGiver(things, x) {
				t.Fatal("out of nothing", x)
			}
			byBox++
		}
	}
	if byTold < 60 || byBox < 60 {
		t.Errorf("only %d were told, %d out of boxes", byTold, byBox)
	}
}

// hasGiver: is there a box whose Load gives the key, and whose Under is had of the other things alone?
func hasGiver(things []thing, x api.Key) bool {
	return slices.ContainsFunc(things, func(one thing) bool {
		if one.kind != aBox || !modelBox(one.box) || one.box.Load.Base != x.Base || one.box.Load.Step > x.Step {
			return false
		}
		var others []thing
		for _, other := range things {
			if other.kind != aBox || other.box != one.box {
				others = append(others, other)
			}
		}
		return of(others...).Has(one.box.Under)
	})
}

// P19.4: a box under its own Load, or under a later step of it, gives nothing; what opens nothing else opens itself neither.
func TestOutOfNothing(t *testing.T) {
	for _, things := range [][]thing{
		{seen(k(1, 0), k(1, 0))}, {seen(k(1, 5), k(1, 0))}, {seen(k(1, 0), k(1, 5))},
		{seen(k(1, 5), k(2, 0)), seen(k(2, 0), k(1, 0))}, {seen(k(1, 0), k(40000, 0)), seen(k(2, 0), k(1, 0))},
		{read(sealed(1, k(1, 0), "a")), seen(k(1, 0), k(2, 0))}, {told(k(40000, 0)), seen(k(1, 0), k(2, 0))},
	} {
		o := of(things...)
		if len(o.Keys()) != 0 || o.Has(k(1, 255)) || o.Has(k(2, 255)) {
			t.Error(things, o.Keys())
		}
	}
	if o := of(seen(k(1, 5), k(1, 0)), told(k(1, 6))); o.Has(k(1, 5)) {
		t.Error("a later key opens an earlier box")
	}
	if o := of(seen(k(1, 5), k(1, 0)), told(k(1, 5))); !o.Has(k(1, 0)) {
		t.Error("a box that gives an earlier step stays shut")
	}
}

// P19.5: of a name of which no key was told and no box with such a Load was seen, no key is had.
func TestNamesUnheard(t *testing.T) {
	for seed := range int64(8) {
		things := drawOf(7000 + seed).things(40)
		heard := map[int]struct{}{}
		for _, one := range things {
			switch one.kind {
			case aKey:
				heard[one.key.Base] = struct{}{}
			case aBox:
				heard[one.box.Load.Base] = struct{}{}
			}
		}
		// Boxes and texts under a name tell nothing of it.
		o := of(append(things, seen(k(77, 0), k(40000, 0)), read(sealed(1, k(78, 0), "a")))...)
		for base := range 32768 {
			if _, ok := heard[base]; !ok && (o.Has(k(base, 255)) || o.Has(k(base, 0))) {
				t.Fatal(seed, base)
			}
		}
		for _, x := range o.Keys() {
			if _, ok := heard[x.Base]; !ok {
				t.Fatal(seed, x)
			}
		}
	}
}

// P19.1, R5: the list of keys is new memory, spare room too.
func TestKeysAreNew(t *testing.T) {
	o := of(told(k(3, 1)), told(k(1, 2)), told(k(32767, 0)), seen(k(1, 2), k(2, 2)), told(k(40000, 2)), told(k(2, 200)))
	want := []api.Key{k(1, 2), k(2, 2), k(3, 1), k(32767, 0)}
	first, second := o.Keys(), o.Keys()
	other := o.Copy().Keys()
	room := first[:cap(first)]
	for i := range room {
		room[i] = k(9, 9)
	}
	_ = append(first[:1], k(8, 8), k(8, 8))
	for _, list := range [][]api.Key{second, o.Keys(), other, o.Copy().Keys()} {
		if !slices.Equal(list, want) {
			t.Error(list)
		}
	}
	if o.Has(k(9, 9)) || !o.Has(k(32767, 0)) || o.Has(k(1, 1)) {
		t.Error("what is done to an answer is seen in the object")
	}
}

// P19.1: what comes to a copy isn't seen in what it was taken of, nor the other way about; also of copies of copies, and with many boxes shut under one key.
func TestCopies(t *testing.T) {
	for seed := range int64(30) {
		d := drawOf(8000 + seed)
		objects, rows := []*know.Know{know.New()}, [][]thing{nil}
		for range 60 {
			i := d.chance.Intn(len(objects))
			if d.chance.Intn(10) == 0 && len(objects) < 6 {
				objects, rows = append(objects, objects[i].Copy()), append(rows, slices.Clone(rows[i]))
				continue
			}
			one := d.thing()
			if d.chance.Intn(3) == 0 {
				one = seen(k(1, 1), k(2+d.chance.Intn(2), d.chance.Intn(250)))
			}
			bring(objects[i], one)
			rows[i] = append(rows[i], one)
		}
		for i, o := range objects {
			wantAs(t, o, rows[i]...)
			o.Learn(k(1, 1))
			wantAs(t, o, append(rows[i], told(k(1, 1)))...)
			wantProbes(t, o, modelOf(append(rows[i], told(k(1, 1)))...))
		}
	}
}

// P19.1: lists that grow on both sides of a copy don't run into one another.
func TestCopiesGrowApart(t *testing.T) {
	for before := range 20 {
		o := know.New()
		for i := range before {
			o.See(box(k(1, 0), k(100+i, 0)))
		}
		c := o.Copy()
		for i := range 5 {
			o.See(box(k(1, 0), k(200+i, 0)))
			c.See(box(k(1, 0), k(300+i, 0)))
			o.SeeSealed(sealed(1, k(50, 0), "o"))
			c.SeeSealed(sealed(1, k(50, 0), "c"))
		}
		if o.Makes(box(k(1, 0), k(300, 0))) || c.Makes(box(k(1, 0), k(200, 0))) || o.MakesSealed(sealed(1, k(50, 0), "c")) || c.MakesSealed(sealed(1, k(50, 0), "o")) {
			t.Fatal("one sees what came to the other")
		}
		c.Learn(k(1, 0))
		if o.Has(k(1, 0)) || len(o.Keys()) != 0 {
			t.Fatal("told to the other")
		}
		o.Learn(k(1, 0))
		wantNames(t, o, before, 200)
		wantNames(t, c, before, 300)
	}
}

// wantNames: the keys are that of the name 1, as many from the name 100 on, and five from the name given on.
func wantNames(t *testing.T, o *know.Know, before, from int) {
	t.Helper()
	want := []api.Key{k(1, 0)}
	for i := range before {
		want = append(want, k(100+i, 0))
	}
	for i := range 5 {
		want = append(want, k(from+i, 0))
	}
	if got := o.Keys(); !slices.Equal(got, want) {
		t.Fatal(before, from, got)
	}
}

// R6: two objects have nothing to do with one another, and the same calls come to the same.
func TestObjectsApart(t *testing.T) {
	a, b := drawOf(9000).things(30), drawOf(9001).things(30)
	x, y := know.New(), know.New()
	for i := range a {
		bring(x, a[i])
		bring(y, b[i])
	}
	wantAs(t, x, a...)
	wantAs(t, y, b...)
	if shown(x) != shown(of(a...)) || shown(y) != shown(of(b...)) || shown(x) == shown(y) {
		t.Error("they have to do with one another")
	}
	if fresh := know.New(); len(fresh.Keys()) != 0 || fresh.Has(k(1, 255)) || fresh.Makes(box(k(1, 0), k(2, 0))) {
		t.Error("a new one has something")
	}
}

// P1: a row through all the server's names, seen from its far end, and as many boxes under one key.
func TestLongRows(t *testing.T) {
	o := know.New()
	for base := 32766; base > 0; base-- {
		o.See(box(k(base, 1), k(base+1, 1)))
	}
	if len(o.Keys()) != 0 {
		t.Fatal("open")
	}
	c := o.Copy()
	o.Learn(k(1, 1))
	if list := o.Keys(); len(list) != 32767 || list[32766] != k(32767, 1) || c.Has(k(2, 255)) {
		t.Fatal(len(list))
	}
	o = know.New()
	for base := 2; base < 32768; base++ {
		o.See(box(k(1, 0), k(base, 3)))
		o.See(box(k(base, 3), k(base, 0)))
		o.See(box(k(base, 3), k(1, 0)))
	}
	o.Learn(k(1, 1))
	if len(o.Keys()) != 1 {
		t.Fatal("open")
	}
	o.Learn(k(30000, 2))
	if list := o.Keys(); len(list) != 32767 || slices.ContainsFunc(list, func(x api.Key) bool { return x.Step != 0 }) {
		t.Fatal(len(list))
	}
}

// P1: some hundred drawn boxes, asked behind each call.
func TestManyBoxes(t *testing.T) {
	d := draw{chance: rand.New(rand.NewSource(9100)), keys: 2, bad: 5}
	o := know.New()
	var things []thing
	for range 1500 {
		one := seen(k(1+d.chance.Intn(300), d.chance.Intn(256)), k(1+d.chance.Intn(300), d.chance.Intn(256)))
		if d.chance.Intn(100) == 0 {
			one = told(k(1+d.chance.Intn(300), d.chance.Intn(256)))
		}
		bring(o, one)
		things = append(things, one)
		if len(things)%100 == 0 {
			wantAs(t, o, things...)
		}
		if one.kind == aBox && !o.Makes(one.box) || one.kind == aKey && !o.Has(one.key) {
			t.Fatal("not taken")
		}
	}
	if n := len(o.Keys()); n < 100 {
		t.Error("only", n)
	}
}

// row is a row of steps: its trees, by their epochs, and all the boxes that were sent.
type row struct {
	trees []api.Tree
	sent  []api.Box
	texts []api.Sealed
}

// rowOf plays drawn batches; behind each step somebody of those who are on asks for its path, and says something.
func rowOf(t *testing.T, seed int64, n int) row {
	t.Helper()
	chance := rand.New(rand.NewSource(seed))
	one := row{trees: []api.Tree{keytree.Start()}}
	for len(one.trees) <= n {
		tree := one.trees[len(one.trees)-1]
		next, message, e := plan.Next(tree, drawnBatch(chance, tree))
		if e != api.OK {
			t.Fatal(e)
		}
		one.trees = append(one.trees, next)
		one.sent = append(one.sent, wire.Boxes(api.Message{Kind: api.KindRekey, Rekey: message})...)
		on := peopleOf(next)
		if len(on) == 0 {
			continue
		}
		m, _ := keytree.Stand(next, on[chance.Intn(len(on))])
		reply, e := recovery.Answer(next, api.Request{Who: m.Who, Epoch: 1})
		s, e2 := data.Seal(m, "said")
		if e != api.OK || e2 != api.OK {
			t.Fatal(e, e2)
		}
		one.sent = append(one.sent, wire.Boxes(api.Message{Kind: api.KindReply, Reply: reply})...)
		one.texts = append(one.texts, s)
	}
	return one
}

func peopleOf(tree api.Tree) []int {
	var list []int
	for _, entry := range tree.Roster {
		if entry.Base != 0 {
			list = append(list, entry.Who)
		}
	}
	return list
}

// drawnBatch has up to three who leave and up to three who join.
func drawnBatch(chance *rand.Rand, tree api.Tree) api.Batch {
	on := peopleOf(tree)
	var b api.Batch
	for range chance.Intn(4) {
		if len(on) > 0 {
			if who := on[chance.Intn(len(on))]; !slices.Contains(b.Leaves, who) {
				b.Leaves = append(b.Leaves, who)
			}
		}
		if who := chance.Intn(40); !slices.Contains(on, who) && !slices.Contains(b.Joins, who) {
			b.Joins = append(b.Joins, who)
		}
	}
	return b
}

// stayed: was the person on in every epoch from one to another, with the node on its path?
func stayed(trees []api.Tree, open api.Reveal, epoch, v int) bool {
	for e := open.Epoch; e <= epoch; e++ {
		slot := slices.IndexFunc(trees[e].Roster[:], func(entry api.Entry) bool { return entry.Base != 0 && entry.Who == open.Who })
		if slot < 0 || v != 0 && v != 1+slot/16 && v != 5+slot/4 {
			return false
		}
	}
	return open.Epoch <= epoch
}

// reveals are some devices that are opened, and the things that stand there: the leaf key, and mostly the path's keys.
func reveals(t *testing.T, chance *rand.Rand, one row, n int) ([]api.Reveal, []thing) {
	t.Helper()
	var opened []api.Reveal
	var things []thing
	for len(opened) < n {
		tree := one.trees[1+chance.Intn(len(one.trees)-1)]
		on := peopleOf(tree)
		if len(on) == 0 {
			continue
		}
		m, e := keytree.Stand(tree, on[chance.Intn(len(on))])
		if e != api.OK {
			t.Fatal(e)
		}
		opened = append(opened, api.Reveal{Who: m.Who, Epoch: m.Epoch})
		things = append(things, told(m.Leaf))
		for _, x := range m.Path {
			things = append(things, told(x))
		}
	}
	return opened, things
}

// P4, P11: of all that was sent, in whatever order, and of the opened devices each node's key is had of just the epochs to which one of their people stayed on a path through it; and texts are made under the group keys of just these.
func TestSecrecy(t *testing.T) {
	chance := rand.New(rand.NewSource(9200))
	had, lacked := 0, 0
	for seed := range int64(8) {
		one := rowOf(t, 9300+seed, 30)
		for n := range 5 {
			opened, things := reveals(t, chance, one, n)
			for _, b := range one.sent {
				things = append(things, seen(b.Under, b.Load))
			}
			for _, s := range one.texts {
				things = append(things, read(s))
			}
			things = append(things, seen(k(40000, 0), k(40001, 3)), seen(k(50000, 2), k(32768, 0)))
			chance.Shuffle(len(things), func(i, j int) { things[i], things[j] = things[j], things[i] })
			o := of(things...)
			for epoch, tree := range one.trees {
				for v, x := range tree.Keys {
					want := slices.ContainsFunc(opened, func(open api.Reveal) bool { return stayed(one.trees, open, epoch, v) })
					if o.Has(x) != want || v == 0 && epoch > 0 && o.MakesSealed(sealed(epoch, x, "forged")) != want {
						t.Fatalf("seed %d, opened %v: node %d at the epoch %d: %v", seed, opened, v, epoch, !want)
					}
					if want {
						had++
					} else {
						lacked++
					}
				}
			}
			for _, s := range one.texts {
				if !o.MakesSealed(s) {
					t.Fatal("what was sent isn't sent again")
				}
			}
		}
	}
	if had < 300 || lacked < 3000 {
		t.Errorf("only %d had, %d not", had, lacked)
	}
}
