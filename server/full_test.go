package server

import (
	"slices"
	"testing"

	"coterie/api"
	"coterie/disk"
	"coterie/journal"
	"coterie/keytree"
)

// filled is a server at Start whose disk has so many free blocks. No row of steps leads there: all records that a server can write have at most 1600 blocks together, and Open refuses others. So it is put together here.
func filled(t *testing.T, free int) *Server {
	t.Helper()
	d := disk.New()
	j, _, e := journal.Open(d)
	if e != api.OK {
		t.Fatal(e)
	}
	for j.End() < api.MaxBlocks-free {
		if e := j.Append("x"); e != api.OK {
			t.Fatal(e)
		}
	}
	return &Server{disk: d, journal: j, tree: keytree.Start()}
}

func crowded() api.Batch {
	var b api.Batch
	for who := range api.MaxMembers {
		b.Joins = append(b.Joins, who)
	}
	return b
}

// P18.1: on a disk that is full a batch is answered by ErrFull: nothing is written, the tree stays, and the server isn't down. ErrDown and the errors of plan.Next come ahead of it.
func TestFullDisk(t *testing.T) {
	for _, one := range []struct {
		free  int
		batch api.Batch
	}{{0, api.Batch{}}, {0, api.Batch{Joins: []int{1}}}, {0, crowded()}, {1, crowded()}, {5, crowded()}} {
		s := filled(t, one.free)
		writes := s.disk.Writes()
		for range 2 {
			if text, e := s.Batch(one.batch); text != "" || e != api.ErrFull {
				t.Fatalf("%d blocks are free: %q, %d; want ErrFull", one.free, text, e)
			}
			if s.Down() || s.Tree() != keytree.Start() || !slices.Equal(s.disk.Writes(), writes) {
				t.Fatalf("%d blocks are free: something has changed beside ErrFull", one.free)
			}
		}
		if _, e := s.Batch(api.Batch{Leaves: []int{9}}); e != api.ErrNotOn {
			t.Fatalf("a batch that doesn't fit, on a full disk: %d", e)
		}
		s.disk.Off()
		if _, e := s.Batch(one.batch); e != api.ErrDown || !s.Down() {
			t.Fatalf("a full disk without power: %d", e)
		}
	}
}

// P18.1: what just fits on the disk is taken; the next step isn't.
func TestLastBlocks(t *testing.T) {
	s := filled(t, 6)
	if text, e := s.Batch(crowded()); text == "" || e != api.OK || s.Tree().Epoch != 1 {
		t.Fatalf("six blocks are free: %d", e)
	}
	before := s.Tree()
	if text, e := s.Batch(api.Batch{}); text != "" || e != api.ErrFull || s.Tree() != before {
		t.Fatalf("no block is free: %d", e)
	}
	if card, e := s.Card(5); e != api.OK || card.Epoch != 1 {
		t.Fatalf("Card on a full disk: %v, %d", card, e)
	}
}

// P18.1: each error inside has its number at the face, however it is wrapped, and tells what was wrong.
func TestErrorsInside(t *testing.T) {
	if e := number(nil); e != api.OK {
		t.Error(e)
	}
	if err := unless(api.OK, "the batch"); err != nil {
		t.Error(err)
	}
	err := unless(api.ErrNotOn, "the batch")
	if number(err) != api.ErrNotOn || err.Error() != "the batch: refused 16" {
		t.Error(err, number(err))
	}
	if again := (wrong{"the step", err}); number(again) != api.ErrNotOn || again.Error() != "the step: the batch: refused 16" {
		t.Error(again, number(again))
	}
}
