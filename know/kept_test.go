package know

import (
	"testing"

	"coterie/api"
)

// P19.2: a box that comes many times is kept once, and of one that is open nothing is kept as shut: what is kept grows with what is told and seen, not with how often.
func TestKeptOnce(t *testing.T) {
	o := New()
	b := api.Box{Under: api.Key{Base: 6, Step: 1}, Load: api.Key{Base: 7}}
	s := api.Sealed{Epoch: 1, Under: api.Key{Base: 6}, Text: "a"}
	for range 100 {
		o.See(b)
		o.SeeSealed(s)
	}
	if len(o.boxes) != 1 || len(o.texts) != 1 || len(o.shut) != 1 || len(o.shut[b.Under]) != 1 {
		t.Error("doubles are kept", len(o.boxes), len(o.texts), len(o.shut[b.Under]))
	}
	for range 100 {
		o.Learn(api.Key{Base: 6})
		o.See(b)
	}
	if len(o.shut) != 0 || len(o.boxes) != 1 || len(o.least) != 2 {
		t.Error("an open box is kept as shut", len(o.shut), len(o.boxes), len(o.least))
	}
}
