package state

import (
	"math"
	"slices"
	"testing"

	"revetment/api"
	"revetment/geom"
)

// P14.1, P14.2: the chapter's example, for each geometry: First has nothing but Next, and its encoding is 01, followed by zeros.
func TestExample(t *testing.T) {
	for _, g := range geometries() {
		s, e := First(g)
		if e != api.OK || !equal(s, api.State{Dirty: slices.Repeat([]int{-1}, g.Sets*g.Ways), Next: 1}) || !Good(g, s) {
			t.Errorf("First(%v) = %v, %v", g, s, e)
		}
		b, e := Encode(g, s)
		if e != api.OK || len(b) != geom.Bytes(g) || b[0] != 1 || slices.Max(b[1:]) != 0 {
			t.Errorf("%v: %v, %v", g, b, e)
		}
		if again, e := Decode(g, b); e != api.OK || !equal(again, s) {
			t.Errorf("%v: %v, %v", g, again, e)
		}
	}
}

// P14.1: First has a slot for each way of each set.
func TestFirstOfEachCache(t *testing.T) {
	for sets := 1; sets <= api.MaxSets; sets++ {
		for ways := 1; ways <= api.MaxWays; ways++ {
			s, e := First(sized(5, sets, ways, 7))
			if e != api.OK || len(s.Dirty) != sets*ways || slices.Max(s.Dirty) != -1 || slices.Min(s.Dirty) != -1 {
				t.Errorf("%d sets, %d ways: %v, %v", sets, ways, s, e)
			}
		}
	}
}

// P14.1, P14.2: what all functions tell of a geometry that is not valid; Decode tells it ahead of what the bytes are.
func TestStrangeGeometry(t *testing.T) {
	first, _ := Encode(shape(), bare(0))
	for _, g := range strange() {
		if s, e := First(g); e != api.ErrArg || !zero(s) {
			t.Errorf("First(%v) = %v, %v", g, s, e)
		}
		for _, b := range [][]byte{nil, {}, {1}, first, toldBytes(shape(), full()), make([]byte, 60), make([]byte, 714), slices.Repeat([]byte{255}, 300)} {
			if s, e := Decode(g, b); e != api.ErrArg || !zero(s) {
				t.Errorf("Decode(%v, %v) = %v, %v", g, b, s, e)
			}
		}
	}
}

// bytesOf lists parts of an encoding.
func bytesOf(parts ...[]byte) []byte {
	return slices.Concat(parts...)
}

// P14.2: the encoding, byte by byte.
func TestEncodeByHand(t *testing.T) {
	empty := make([]byte, 15)
	slots := []byte{7, 0, 1, 4, 0, 2}
	first := bytesOf([]byte{2, 0, 0, 0}, []byte{0b101, 1}, []byte{4, 0, 1, 0, 0, 0, 0, 0, 5})
	none := make([]byte, 9)
	for _, x := range []struct {
		s    api.State
		want []byte
	}{
		{full(), bytesOf([]byte{11, 0, 0, 0, 2, 2, 44, 1, 0, 0}, slots, first, []byte{10, 0, 0, 0, 0b01000000, 0, 0, 0, 0, 0, 0, 0, 2, 0, 0}, slices.Repeat(empty, 6), []byte{0, 3, 0, 0, 255, 0, 0, 255, 6})},
		{rolling(), bytesOf([]byte{11, 0, 0, 0, 2, 1, 2, 0, 0, 0}, slots, first, []byte{10, 0, 0, 0, 0b01000010, 0, 0, 0, 0, 0, 0, 0, 2, 0, 0}, slices.Repeat(empty, 6), []byte{4, 0, 1, 0, 0, 2, 0, 2, 5})},
		{edited(plain(), func(s *api.State) { s.Snaps[1].Id, s.Next = 1000000, 1000001 }), bytesOf([]byte{0x41, 0x42, 0x0f, 0, 2, 0, 0, 0, 0, 0}, slots, first, []byte{0x40, 0x42, 0x0f, 0, 0b01000000, 0, 0, 0, 0, 0, 0, 0, 2, 0, 0}, slices.Repeat(empty, 6), none)},
		{edited(bare(0), func(s *api.State) { s.Plan = api.Plan{Kind: api.PlanImport, Id: 0x0c0b0a} }), bytesOf([]byte{1, 0, 0, 0, 0, 2, 10, 11, 12, 0}, make([]byte, 6), slices.Repeat(empty, 8), none)},
		{edited(bare(8), func(s *api.State) { s.Next = 0x030201 }), bytesOf([]byte{1, 2, 3, 0, 8, 0, 0, 0, 0, 0}, make([]byte, 6), []byte{1}, make([]byte, 14), []byte{2}, make([]byte, 14), []byte{3}, make([]byte, 14), []byte{4}, make([]byte, 14), []byte{5}, make([]byte, 14), []byte{6}, make([]byte, 14), []byte{7}, make([]byte, 14), []byte{8}, make([]byte, 14), none)},
	} {
		b, e := Encode(shape(), x.s)
		if e != api.OK || !slices.Equal(b, x.want) {
			t.Errorf("Encode(%v) = %v, %v, want %v", x.s, b, e, x.want)
		}
		if s, e := Decode(shape(), x.want); e != api.OK || !equal(s, x.s) {
			t.Errorf("Decode(%v) = %v, %v, want %v", x.want, s, e, x.s)
		}
	}
}

// P14.2: the smallest and the largest volume, full of all that they can have.
func TestEncodeOfExtremes(t *testing.T) {
	small := api.State{Dirty: []int{0}, Next: 9}
	for i := range 8 {
		small.Snaps = append(small.Snaps, api.Snap{Id: i + 1, Changed: []byte{0}})
	}
	small.Snaps[7].Changed[0] = 1
	b, e := Encode(smallest(), small)
	want := []byte{9, 0, 0, 0, 8, 0, 0, 0, 0, 0, 1, 1, 0, 0, 0, 0, 0, 2, 0, 0, 0, 0, 0, 3, 0, 0, 0, 0, 0, 4, 0, 0, 0, 0, 0, 5, 0, 0, 0, 0, 0, 6, 0, 0, 0, 0, 0, 7, 0, 0, 0, 0, 0, 8, 0, 0, 0, 1, 0, 0}
	if e != api.OK || !slices.Equal(b, want) {
		t.Error(b, e)
	}
	g := largest()
	large := api.State{Next: 7, Plan: api.Plan{Kind: api.PlanImport, Id: 1000000}}
	for i := range 32 {
		large.Dirty = append(large.Dirty, i/4+8*(7-i%4))
	}
	large.Snaps = []api.Snap{{Id: 3, Changed: slices.Repeat([]byte{255}, 8)}, {Id: 6, Changed: slices.Repeat([]byte{255}, 8)}}
	for block := range 64 {
		large.Snaps[0].Table = append(large.Snaps[0].Table, api.Pair{Block: block, At: 199 - block})
		large.Snaps[1].Table = append(large.Snaps[1].Table, api.Pair{Block: block, At: block})
		large.Plan.Pairs = append(large.Plan.Pairs, api.Pair{Block: block, At: 64 + block})
	}
	b, e = Encode(g, large)
	if e != api.OK || len(b) != 714 || !slices.Equal(b, toldBytes(g, large)) {
		t.Error(b, e)
	}
	if b[10] != 57 || b[41] != 40 || b[42] != 3 || b[54] != 200 || b[117] != 137 || b[118] != 6 || b[130] != 1 || b[650] != 65 || b[713] != 128 {
		t.Error(b)
	}
	if s, e := Decode(g, b); e != api.OK || !equal(s, large) {
		t.Error(s, e)
	}
}

// P14.2: what Encode returns has each part in its place, for samples of each geometry.
func TestEncodeOfSamples(t *testing.T) {
	for _, x := range samples() {
		b, e := Encode(x.g, x.s)
		if e != api.OK || len(b) != geom.Bytes(x.g) || !slices.Equal(b, toldBytes(x.g, x.s)) {
			t.Errorf("Encode(%v, %v) = %v, %v", x.g, x.s, b, e)
		}
	}
}

// P14.3: Decode of the result of Encode returns the state.
func TestThereAndBack(t *testing.T) {
	for _, x := range samples() {
		b, e := Encode(x.g, x.s)
		if e != api.OK {
			t.Errorf("Encode(%v, %v): %v", x.g, x.s, e)
		}
		if s, e := Decode(x.g, b); e != api.OK || !equal(s, x.s) || !Same(s, x.s) || !Good(x.g, s) {
			t.Errorf("%v: %v, %v, want %v", x.g, s, e, x.s)
		}
	}
}

// P14.3: every small state that is valid: of one block, with no place, one and two in the area.
func TestThereAndBackOfSmall(t *testing.T) {
	tables := [][]api.Pair{nil, pairs(0, 0), pairs(0, 1)}
	for area := range 3 {
		g := sized(1, 1, 1, area)
		good := 0
		try := func(s api.State) {
			b, e := Encode(g, s)
			if !toldGood(g, s) {
				if e != api.ErrForm || len(b) != 0 {
					t.Fatalf("Encode(%v, %v) = %v, %v", g, s, b, e)
				}
				return
			}
			good++
			if again, f := Decode(g, b); e != api.OK || f != api.OK || !slices.Equal(b, toldBytes(g, s)) || !equal(again, s) {
				t.Fatalf("%v: %v, %v, %v, want %v", g, again, e, f, s)
			}
		}
		for _, dirty := range []int{-1, 0, 1} {
			for _, last := range []int{0, 1, 2} {
				for kind := range 3 {
					for id := range 5 {
						for _, l := range slices.Concat(tables, [][]api.Pair{pairs(0, api.Zeros)}) {
							for next := range 4 {
								for k := range 36 {
									snaps := []api.Snap{{Id: 1, Changed: []byte{byte(k % 2)}, Table: tables[k/2%3]}, {Id: 2, Changed: []byte{byte(k / 6 % 2)}, Table: tables[k/12]}}
									try(api.State{Dirty: []int{dirty}, Snaps: snaps[:last], Next: next, Plan: api.Plan{Kind: kind, Id: id, Pairs: l}})
								}
							}
						}
					}
				}
			}
		}
		if good < 100 {
			t.Errorf("an area of %d: only %d", area, good)
		}
	}
}

// refuse holds Decode to ErrForm.
func refuse(t *testing.T, g api.Geom, b []byte) {
	t.Helper()
	if s, e := Decode(g, b); e != api.ErrForm || !zero(s) {
		t.Errorf("Decode(%v, %v) = %v, %v", g, b, s, e)
	}
}

// P14.2: too few bytes, none at all among them, and too many.
func TestDecodeOfLengths(t *testing.T) {
	for _, x := range samples() {
		b := toldBytes(x.g, x.s)
		for n := range b {
			refuse(t, x.g, b[:n])
		}
		refuse(t, x.g, nil)
		for _, more := range [][]byte{{0}, {1}, {255}, make([]byte, 48), b, make([]byte, 70000)} {
			refuse(t, x.g, slices.Concat(b, more))
			refuse(t, x.g, slices.Concat(more, b))
		}
	}
}

// P14.2: the encoding for one geometry is none for another one that has other sizes of the same state.
func TestDecodeOfOtherGeometry(t *testing.T) {
	b := toldBytes(shape(), full())
	for _, g := range geometries() {
		if g != shape() {
			refuse(t, g, b)
		}
	}
	refuse(t, sized(9, 3, 2, 6), b) // as many bytes, but other sets
	refuse(t, sized(9, 2, 3, 5), b) // the plan has the last place
	if s, e := Decode(sized(9, 2, 3, 200), b); e != api.OK || !equal(s, full()) {
		t.Error(s, e)
	}
}

// decodes holds Decode to the document's words for these bytes, and reports whether they are an encoding.
func decodes(t *testing.T, g api.Geom, b []byte) (good bool) {
	t.Helper()
	s, e := Decode(g, b)
	want, good := toldState(g, b)
	if !good {
		if e != api.ErrForm || !zero(s) {
			t.Fatalf("Decode(%v, %v) = %v, %v", g, b, s, e)
		}
		return false
	}
	if e != api.OK || !equal(s, want) || !Good(g, s) {
		t.Fatalf("Decode(%v, %v) = %v, %v, want %v", g, b, s, e, want)
	}
	if again, e := Encode(g, s); e != api.OK || !slices.Equal(again, b) {
		t.Fatalf("Decode(%v, %v) = %v, which is %v, %v", g, b, s, again, e)
	}
	return true
}

// P14.2: each byte of an encoding turned into each other one: it is refused, or it is the encoding of another valid state.
func TestDecodeOfEachByteTurned(t *testing.T) {
	for k, x := range samples() {
		b := toldBytes(x.g, x.s)
		good, bad := 0, 0
		for i := range b {
			by := 1
			if k > 1 {
				by = 1 + k%7 + len(b)/9 // each value is too much for all samples
			}
			for d := by; d < 256; d += by {
				c := slices.Clone(b)
				c[i] += byte(d)
				if decodes(t, x.g, c) {
					good++
				} else {
					bad++
				}
			}
		}
		if bad == 0 || k < 2 && good == 0 {
			t.Errorf("%v: %d were good, %d not", x, good, bad)
		}
	}
}

// P14.2: each two bytes of small encodings turned.
func TestDecodeOfTwoBytesTurned(t *testing.T) {
	values := []byte{0, 1, 2, 3, 254, 255}
	good := 0
	for _, s := range []api.State{
		{Dirty: []int{-1}, Next: 1},
		{Dirty: []int{0}, Next: 2, Snaps: []api.Snap{{Id: 1, Changed: []byte{1}, Table: pairs(0, 0)}}, Plan: api.Plan{Kind: api.PlanImport, Id: 2, Pairs: pairs(0, 1)}},
		{Dirty: []int{0}, Next: 3, Snaps: []api.Snap{{Id: 1, Changed: []byte{1}, Table: pairs(0, 1)}, {Id: 2, Changed: []byte{1}, Table: pairs(0, 0)}}, Plan: api.Plan{Kind: api.PlanRoll, Id: 2, Pairs: pairs(0, 1)}},
	} {
		g := sized(1, 1, 1, 2)
		b := toldBytes(g, s)
		for i := range b {
			for k := range i {
				for n := range len(values) * len(values) {
					c := slices.Clone(b)
					c[i], c[k] = values[n/len(values)], values[n%len(values)]
					if decodes(t, g, c) {
						good++
					}
				}
			}
		}
	}
	if good < 1000 {
		t.Errorf("only %d were good", good)
	}
}

// P14.2: bytes where there is no snapshot are zeros, and as many snapshots are told as there are.
func TestDecodeOfEmptySnapshots(t *testing.T) {
	for _, s := range []api.State{bare(0), bare(1), bare(7), bare(8), plain(), full(), rolling()} {
		b := toldBytes(shape(), s)
		o := laid(shape())
		for i := o.snaps + len(s.Snaps)*o.each; i < o.pairs; i++ {
			for _, x := range []byte{1, 2, 128, 255} {
				c := slices.Clone(b)
				c[i] = x
				refuse(t, shape(), c)
			}
		}
		for n := range 256 {
			c := slices.Clone(b)
			c[4] = byte(n)
			if good := decodes(t, shape(), c); good && n != len(s.Snaps) && s.Plan.Kind == api.PlanNone {
				t.Errorf("%v: %d snapshots", s, n)
			}
		}
		if len(s.Snaps) < 8 {
			c := slices.Clone(b)
			c[4], c[o.snaps+len(s.Snaps)*o.each] = byte(len(s.Snaps)+1), 100 // an Id that is not less than Next
			refuse(t, shape(), c)
		}
	}
}

// P14.2: the bytes of a plan: Zeros is a place of an import alone, and 254 and all others behind the area are no places.
func TestDecodeOfPlaces(t *testing.T) {
	for _, area := range []int{0, 1, 6, 199, 200} {
		g := sized(9, 2, 3, area)
		o := laid(g)
		s := bare(0)
		s.Plan = api.Plan{Kind: api.PlanImport, Id: 1}
		b := toldBytes(g, s)
		for i := range 9 {
			for x := range 256 {
				c := slices.Clone(b)
				c[o.pairs+i] = byte(x)
				if good := decodes(t, g, c); good != (x <= area || x == api.Zeros) {
					t.Errorf("an area of %d: %d for block %d: %v", area, x, i, good)
				}
			}
		}
	}
	g := largest()
	s, _ := First(g)
	s.Next, s.Snaps, s.Plan = 2, []api.Snap{{Id: 1, Changed: []byte{3, 0, 0, 0, 0, 0, 0, 0}, Table: pairs(0, 199, 1, 7)}}, api.Plan{Kind: api.PlanRoll, Id: 1}
	b := toldBytes(g, s)
	for x := range 256 {
		c := slices.Clone(b)
		c[len(c)-1] = byte(x)
		if good := decodes(t, g, c); good != (x == 0 || x == 8 || x == 200) {
			t.Errorf("rolling: %d: %v", x, good)
		}
		c = slices.Clone(b)
		c[laid(g).snaps+12] = byte(x)
		if good := decodes(t, g, c); good != (x <= 200 && x != 8) {
			t.Errorf("a Table: %d: %v", x, good)
		}
	}
}

// P14.2: bytes of a geometry's length that have nothing to do with a state.
func TestDecodeOfAnyBytes(t *testing.T) {
	for _, g := range geometries() {
		n := geom.Bytes(g)
		for x := range 256 {
			refuse(t, g, slices.Repeat([]byte{byte(x)}, n))
		}
		rising := make([]byte, n)
		for i := range rising {
			rising[i] = byte(i)
		}
		refuse(t, g, rising)
	}
}

// P14.1: Same is true of a state and itself, and of no two samples that differ.
func TestSameOfSamples(t *testing.T) {
	all := append(samples(), sample{s: api.State{}}, sample{s: api.State{Next: math.MinInt, Dirty: far()}})
	for i, x := range all {
		for _, y := range all[:i+1] {
			if Same(x.s, y.s) != equal(x.s, y.s) || Same(y.s, x.s) != equal(x.s, y.s) {
				t.Errorf("Same(%v, %v) is %v", x.s, y.s, Same(x.s, y.s))
			}
		}
		if !Same(x.s, anew(x.s)) || !Same(anew(x.s), x.s) {
			t.Errorf("%v and itself", x.s)
		}
	}
}

// P14.1: Same is false of states that differ in one number or one length alone, for each of them, valid or not.
func TestSameOfOneDifference(t *testing.T) {
	for _, s := range []api.State{full(), rolling(), plain(), bare(0), bare(8)} {
		for i, edit := range edits(s, far()) {
			c := edited(s, edit)
			if equal(c, s) {
				continue // the number that it was
			}
			if Same(c, s) || Same(s, c) {
				t.Errorf("%d: Same(%v, %v)", i, s, c)
			}
		}
	}
	for i, edit := range []func(s *api.State){
		func(s *api.State) { s.Dirty = s.Dirty[:5] }, func(s *api.State) { s.Dirty = nil }, func(s *api.State) { s.Dirty = append(s.Dirty, -1) }, func(s *api.State) { s.Dirty = append(s.Dirty, 0) }, func(s *api.State) { s.Dirty[0], s.Dirty[2] = 0, 6 },
		func(s *api.State) { s.Snaps = s.Snaps[:1] }, func(s *api.State) { s.Snaps = s.Snaps[1:] }, func(s *api.State) { s.Snaps = nil }, func(s *api.State) { s.Snaps = append(s.Snaps, api.Snap{}) }, func(s *api.State) { s.Snaps[0], s.Snaps[1] = s.Snaps[1], s.Snaps[0] },
		func(s *api.State) { s.Snaps[0].Id++ }, func(s *api.State) { s.Snaps[1].Id = 0 }, func(s *api.State) { s.Snaps[1].Id += 1 << 32 },
		func(s *api.State) { s.Snaps[0].Changed = nil }, func(s *api.State) { s.Snaps[1].Changed = s.Snaps[1].Changed[:1] }, func(s *api.State) { s.Snaps[1].Changed = append(s.Snaps[1].Changed, 0) }, func(s *api.State) { s.Snaps[1].Changed[1] = 1 },
		func(s *api.State) { s.Snaps[0].Table = nil }, func(s *api.State) { s.Snaps[0].Table = s.Snaps[0].Table[:2] }, func(s *api.State) { s.Snaps[1].Table = append(s.Snaps[1].Table, api.Pair{}) }, func(s *api.State) { s.Snaps[1].Table[0].At++ }, func(s *api.State) { s.Snaps[0].Table[2].Block-- },
		func(s *api.State) { s.Next++ }, func(s *api.State) { s.Next = 0 }, func(s *api.State) { s.Next += 1 << 32 },
		func(s *api.State) { s.Plan = api.Plan{} }, func(s *api.State) { s.Plan.Kind = 3 }, func(s *api.State) { s.Plan.Kind += 256 }, func(s *api.State) { s.Plan.Id++ }, func(s *api.State) { s.Plan.Id = 0 },
		func(s *api.State) { s.Plan.Pairs = nil }, func(s *api.State) { s.Plan.Pairs = s.Plan.Pairs[1:] }, func(s *api.State) { s.Plan.Pairs = append(s.Plan.Pairs, api.Pair{}) }, func(s *api.State) { s.Plan.Pairs[0].Block++ }, func(s *api.State) { s.Plan.Pairs[3].At++ },
	} {
		c := edited(full(), edit)
		if Same(c, full()) || Same(full(), c) {
			t.Errorf("%d: %v", i, c)
		}
	}
}

// P14.1: for Same, parts that are nil and parts that are empty are equal.
func TestSameOfNothing(t *testing.T) {
	var zeros []api.State
	for _, dirty := range [][]int{nil, {}, full().Dirty[:0]} {
		for _, snaps := range [][]api.Snap{nil, {}, full().Snaps[:0]} {
			for _, l := range [][]api.Pair{nil, {}, full().Plan.Pairs[:0]} {
				zeros = append(zeros, api.State{Dirty: dirty, Snaps: snaps, Plan: api.Plan{Pairs: l}})
			}
		}
	}
	for _, a := range zeros {
		for _, b := range zeros {
			if !Same(a, b) {
				t.Errorf("Same(%v, %v)", a, b)
			}
		}
	}
	for _, a := range [][]byte{nil, {}} {
		for _, b := range [][]api.Pair{nil, {}} {
			s := api.State{Snaps: []api.Snap{{Id: 1, Changed: a, Table: b}}}
			if !Same(s, api.State{Snaps: []api.Snap{{Id: 1}}}) || Same(s, api.State{}) {
				t.Errorf("%v and %v", a, b)
			}
		}
	}
}

// anyStates are states of all sorts, which no geometry takes.
func anyStates() []api.State {
	return []api.State{
		{}, {Dirty: []int{}, Snaps: []api.Snap{}, Plan: api.Plan{Pairs: []api.Pair{}}}, {Dirty: far(), Next: math.MinInt},
		{Snaps: []api.Snap{{}, {}, {Id: -3, Changed: []byte{1, 2, 3}, Table: pairs(9, 9, 9, 9, -1, 300)}}, Plan: api.Plan{Kind: 77, Id: math.MaxInt, Pairs: pairs(5, 1, 5, 1, 0, 255)}},
		{Dirty: []int{1, 1, 1}, Snaps: slices.Repeat([]api.Snap{{Id: 4, Changed: []byte{7}, Table: pairs(1, 2)}}, 20), Next: -1},
		edited(full(), func(s *api.State) { s.Plan.Kind = -1 }), edited(rolling(), func(s *api.State) { s.Next = 0 }),
	}
}

// P14.1: Copy returns s, valid or not.
func TestCopyIsSame(t *testing.T) {
	for _, s := range anyStates() {
		if c := Copy(s); !equal(c, s) || !Same(c, s) {
			t.Errorf("Copy(%v) = %v", s, c)
		}
	}
	for _, x := range samples() {
		if c := Copy(x.s); !equal(c, x.s) || !Same(c, x.s) || !Good(x.g, c) {
			t.Errorf("Copy(%v) = %v", x.s, c)
		}
	}
}

// Long parts of a state are quick too.
func TestLong(t *testing.T) {
	const n = 300000
	long := api.State{Dirty: make([]int, n), Snaps: make([]api.Snap, n), Plan: api.Plan{Pairs: make([]api.Pair, n)}, Next: 1}
	for i := range n {
		long.Dirty[i], long.Snaps[i].Id, long.Plan.Pairs[i] = i, i+1, api.Pair{Block: i, At: i}
	}
	if c := Copy(long); !equal(c, long) || !Same(c, long) {
		t.Error("Copy")
	}
	first := bare(0)
	wide := []api.Snap{{Id: 1, Changed: make([]byte, n), Table: long.Plan.Pairs}}
	for _, s := range []api.State{long, {Dirty: long.Dirty, Next: 1}, {Dirty: first.Dirty, Snaps: long.Snaps, Next: n + 1}, {Dirty: first.Dirty, Snaps: wide, Next: 2}} {
		judge(t, shape(), s, false)
	}
	for kind := range 3 {
		judge(t, shape(), edited(first, func(s *api.State) { s.Plan = api.Plan{Kind: kind, Id: 1, Pairs: long.Plan.Pairs} }), false)
	}
	refuse(t, shape(), make([]byte, n))
}
