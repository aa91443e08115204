package parse

import (
	"math/rand"
	"testing"

	"revetment/api"
)

// flaw is something that may be wrong with a draft: what makes it so, and its error.
type flaw struct {
	e    api.Errno
	make func(d *draft)
}

// flaws are what may be wrong with a stream's bytes, in the order in which P17.1 names it. All of them fit together: none undoes another one.
func flaws(s api.Stream) []flaw {
	var l []flaw
	add := func(e api.Errno, make func(d *draft)) { l = append(l, flaw{e, make}) }
	starts := drafted(s).starts()
	for n := range 4 {
		add(api.ErrShort, cutTo(n))
	}
	add(api.ErrMagic, func(d *draft) { d.magic = "X" + d.magic[1:] })
	add(api.ErrMagic, func(d *draft) { d.magic = d.magic[:3] + "2" })
	for n := 4; n < 24; n++ {
		add(api.ErrShort, cutTo(n))
	}
	add(api.ErrCheck, func(d *draft) { d.turn = turn{3, 64} })
	add(api.ErrSize, func(d *draft) { d.blocks += 64 })
	add(api.ErrRange, func(d *draft) { d.id += 1000000 })
	add(api.ErrRange, func(d *draft) { d.next += 1 << 30 })
	for i := range s.Records {
		l = append(l, recordFlaws(s, i, starts[i], starts[i+1])...)
	}
	end := starts[len(s.Records)]
	for n := range 9 {
		add(api.ErrShort, cutTo(end+n))
	}
	add(api.ErrForm, func(d *draft) { d.end = 0x44 })
	add(api.ErrCheck, func(d *draft) { d.endTurn = turn{7, 1} })
	add(api.ErrLong, func(d *draft) { d.more = []byte{0x45} })
	return l
}

// recordFlaws are what may be wrong with record i, which stands from start to end.
func recordFlaws(s api.Stream, i, start, end int) []flaw {
	var l []flaw
	add := func(e api.Errno, make func(d *draft)) { l = append(l, flaw{e, make}) }
	for n := range 5 {
		add(api.ErrShort, cutTo(start+n))
	}
	add(api.ErrForm, func(d *draft) { d.records[i].mark += 2 })
	add(api.ErrRange, func(d *draft) { d.records[i].from += 0x4000 })
	add(api.ErrRange, func(d *draft) { d.records[i].count += 0x4000 })
	for n := start + 5; n < end; n++ {
		add(api.ErrShort, cutTo(n))
	}
	add(api.ErrCheck, func(d *draft) { d.records[i].turn = turn{0, 128} })
	if !s.Records[i].Zeros {
		add(api.ErrOrder, func(d *draft) { clear(d.records[i].data[:64]) })
	} else if i > 0 {
		add(api.ErrOrder, func(d *draft) { d.records[i].from-- })
	}
	return l
}

// mixed are streams in which a record of zeros follows each time upon one that it touches.
func mixed() []api.Stream {
	return []api.Stream{lone(), of(filled(4, 3)), of(filled(1, 3), zeros(2, 2), filled(5, 1, 2), zeros(7, 1)), whole()}
}

// P17.1: each thing that may be wrong has its error.
func TestOneFlaw(t *testing.T) {
	for _, s := range mixed() {
		for _, x := range flaws(s) {
			hold(t, drafted(s).changed(x.make), x.e)
		}
	}
}

// P17.1: of each two things that are wrong, the one that is named first is told: of neighbours, and of those far apart.
func TestTwoFlaws(t *testing.T) {
	for _, s := range mixed() {
		d := drafted(s)
		l := flaws(s)
		for i, x := range l {
			for k, y := range l[i+1:] {
				if k > 30 && (i+k)%23 != 0 { // of those far apart, some
					continue
				}
				hold(t, d.changed(x.make, y.make), x.e)
				hold(t, d.changed(y.make, x.make), x.e)
			}
		}
	}
}

// P17.1: of many things that are wrong, the one that is named first is told.
func TestManyFlaws(t *testing.T) {
	r := rand.New(rand.NewSource(17))
	for _, s := range mixed() {
		l := flaws(s)
		for range 1000 {
			d := drafted(s)
			first := r.Intn(len(l))
			makes := []func(d *draft){l[first].make}
			for i := first + 1; i < len(l); i += 1 + r.Intn(40) {
				makes = append(makes, l[i].make)
			}
			hold(t, d.changed(makes...), l[first].e)
		}
	}
}

// P17.1: which error comes first, written out for each two neighbours in the order.
func TestNeighbours(t *testing.T) {
	one := of(filled(4, 3))
	zero := of(filled(4, 3), zeros(5, 2))
	cut := func(n int) func(d *draft) { return cutTo(n) }
	magic := func(d *draft) { d.magic = "RVS0" }
	headTurn := func(d *draft) { d.turn = turn{0, 1} }
	blocks := func(d *draft) { d.blocks = 65 }
	id := func(d *draft) { d.id = 0 }
	mark := func(d *draft) { d.records[0].mark = 0 }
	count := func(d *draft) { d.records[0].count = 0 }
	recordTurn := func(d *draft) { d.records[0].turn = turn{7, 128} }
	order := func(d *draft) { clear(d.records[0].data) }
	secondMark := func(d *draft) { d.records[1].mark = 0xff }
	end := func(d *draft) { d.end = 0 }
	endTurn := func(d *draft) { d.endTurn = turn{0, 1} }
	more := func(d *draft) { d.more = []byte{0} }
	last := drafted(one).starts()[1]
	for i, x := range []struct {
		s    api.Stream
		l    []func(d *draft)
		want api.Errno
	}{
		{one, []func(d *draft){func(d *draft) { d.magic = "X" }, cut(3)}, api.ErrShort},
		{one, []func(d *draft){magic, cut(4)}, api.ErrMagic},
		{one, []func(d *draft){magic, cut(23)}, api.ErrMagic},
		{one, []func(d *draft){headTurn, cut(23)}, api.ErrShort},
		{one, []func(d *draft){headTurn, blocks}, api.ErrCheck},
		{one, []func(d *draft){blocks, id}, api.ErrSize},
		{one, []func(d *draft){id, cut(24)}, api.ErrRange},
		{one, []func(d *draft){mark, cut(28)}, api.ErrShort},
		{one, []func(d *draft){mark, count}, api.ErrForm},
		{one, []func(d *draft){count, cut(29)}, api.ErrRange},
		{one, []func(d *draft){recordTurn, cut(last - 1)}, api.ErrShort},
		{one, []func(d *draft){order, cut(last - 1)}, api.ErrShort},
		{one, []func(d *draft){recordTurn, order}, api.ErrCheck},
		{one, []func(d *draft){order, cut(last)}, api.ErrOrder},
		{zero, []func(d *draft){recordTurn, secondMark}, api.ErrCheck},
		{zero, []func(d *draft){order, secondMark}, api.ErrOrder},
		{zero, []func(d *draft){order, cut(last + 4)}, api.ErrOrder},
		{zero, []func(d *draft){secondMark, cut(last + 4)}, api.ErrShort},
		{one, []func(d *draft){order, end}, api.ErrOrder},
		{one, []func(d *draft){end, cut(last + 8)}, api.ErrShort},
		{one, []func(d *draft){end, endTurn}, api.ErrForm},
		{one, []func(d *draft){end, more}, api.ErrForm},
		{one, []func(d *draft){endTurn, more}, api.ErrCheck},
	} {
		if _, e := Parse(drafted(x.s).changed(x.l...)); e != x.want {
			t.Errorf("%d: %v, not %v", i, e, x.want)
		}
		hold(t, drafted(x.s).changed(x.l...), x.want)
	}
}
