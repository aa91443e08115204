package ways

import (
	"slices"
	"testing"
)

// whole returns all of a slice's memory.
func whole[T any](l []T) []T {
	return l[:cap(l)]
}

// What Dirty returns is the caller's own, its spare capacity too: writing to it changes neither the map nor what another call returns, and the map does not change it later.
func TestDirtyIsTheCallers(t *testing.T) {
	for _, x := range sizes() {
		m := made(t, x[0], x[1])
		slots := x[0] * x[1]
		for slot := range slots {
			m.Put(slot, slot/x[1]+x[0]*(slot%x[1]), slot%3 != 1)
		}
		first, second := m.Dirty(), m.Dirty()
		before, shown := slices.Clone(whole(first)), text(m, slots)
		for i := range whole(second) {
			whole(second)[i] = -99
		}
		if !slices.Equal(whole(first), before) || !slices.Equal(m.Dirty(), first) || text(m, slots) != shown {
			t.Errorf("%v: %v, then %v; %s", x, before, first, text(m, slots))
		}
		for slot := range slots {
			m.Clean(slot)
			m.Drop(slot)
		}
		if !slices.Equal(whole(first), before) || slices.Max(m.Dirty()) != -1 {
			t.Errorf("%v: %v, then %v; %v", x, before, first, m.Dirty())
		}
	}
}

// Two maps of one size have nothing in common.
func TestMapsAreApart(t *testing.T) {
	a, b := made(t, 2, 2), made(t, 2, 2)
	fill(a, "0d 2d 1 3d")
	a.Dirtiest(0)
	if s := text(b, 4); s != "- - - -" {
		t.Error(s)
	}
	fill(b, "4d 6d - 5")
	if x, ok := b.Dirtiest(0); x != 0 || !ok {
		t.Error(x, ok)
	}
	b.Clean(1)
	b.Room(5)
	b.Drop(0)
	if s := text(a, 4); s != "0d 2d 1 3d" {
		t.Error(s)
	}
	if x, ok := a.Dirtiest(0); x != 1 || !ok {
		t.Error(x, ok)
	}
	made(t, 2, 2).Room(1)
	if s := text(a, 4) + "; " + text(b, 4); s != "0d 2d 1 3d; - 6 - 5" {
		t.Error(s)
	}
}
