package net

import "testing"

// P20.2: what is kept is what was sent, once, and of that what is under way; a dropped packet leaves nothing behind in the map.
func TestKept(t *testing.T) {
	n := New()
	for i := range 100 {
		n.Send(i, "text")
	}
	for number := -50; number < 150; number++ {
		n.Get(number)
		n.Waiting()
		n.Seen()
		n.Drop(number)
		n.Drop(number)
		want := 100
		if number > 0 {
			want = max(0, 100-number)
		}
		if len(n.waiting) != want || len(n.sent) != 100 {
			t.Fatalf("behind the drop of %d: %d are kept as under way, %d as sent", number, len(n.waiting), len(n.sent))
		}
	}
}
