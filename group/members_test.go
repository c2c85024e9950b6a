package group

import (
	"fmt"
	"math"
	"testing"

	"tailrace/api"
)

// anew: the members with their parts, in this order, in the generation that comes.
func anew(members ...api.Member) func(g *api.Group) {
	return func(g *api.Group) {
		g.Gen++
		g.Members = members
	}
}

// TestJoin: P6.4, a member stands behind all, heard of now, and all are assigned anew; what was stored stays.
func TestJoin(t *testing.T) {
	d, a, c, b := middle().Members[dan], middle().Members[ann], middle().Members[cid], middle().Members[bob]
	has := func(m api.Member, parts ...int) api.Member {
		m.Parts = parts
		return m
	}
	late := with(func(g *api.Group) { g.Clock = 5000 })
	five := with(func(g *api.Group) { g.Members = append(g.Members, api.Member{Name: "fay"}) })
	runDone(t, []doneRow{
		{"the first one", api.Group{Wait: 5}, join("a", 2), anew(api.Member{Name: "a", Parts: []int{0, 1}})},
		{"the first one, late", api.Group{Wait: 5, Clock: top, Gen: 9}, join("a", 1), anew(api.Member{Name: "a", Heard: top, Parts: []int{0}})},
		{"the last one by its name", middle(), join("eve", 4),
			anew(has(d, 3), has(a, 0), has(c, 2), has(b, 1), api.Member{Name: "eve", Heard: 50})},
		{"the first one by its name", middle(), join("abe", 4),
			anew(has(d), has(a, 1), has(c, 3), has(b, 2), api.Member{Name: "abe", Heard: 50, Parts: []int{0}})},
		{"one in between", middle(), join("bo", 3),
			anew(has(d), has(a, 0), has(c), has(b, 2), api.Member{Name: "bo", Heard: 50, Parts: []int{1}})},
		{"without parts", middle(), join("eve", 0), anew(has(d), has(a), has(c), has(b), api.Member{Name: "eve", Heard: 50})},
		{"others were silent for too long", late, join("eve", 1), anew(has(d), has(a, 0), has(c), has(b), api.Member{Name: "eve", Heard: 5000})},
		{"the last one that there is room for", five, join("eve", 4),
			anew(has(d, 3), has(a, 0), has(c, 2), has(b, 1), api.Member{Name: "fay"}, api.Member{Name: "eve", Heard: 50})},
		{"to the last generation", with(func(g *api.Group) { g.Gen = top - 1 }), join("eve", 1),
			anew(has(d), has(a, 0), has(c), has(b), api.Member{Name: "eve", Heard: 50})},
	})
	var rows []refusedRow
	for _, parts := range []int{math.MinInt, -1, api.MaxParts + 1, math.MaxInt} {
		rows = append(rows,
			refusedRow{fmt.Sprint("no such parts: ", parts), middle(), join("eve", parts), api.ErrRange},
			refusedRow{fmt.Sprint("that, and it is a member: ", parts), middle(), join("ann", parts), api.ErrRange},
			refusedRow{fmt.Sprint("that, and there is no room: ", parts), with(full), join("new", parts), api.ErrRange})
	}
	fullAndLast := with(func(g *api.Group) { full(g); lastGen(g) })
	runRefused(t, append(rows,
		refusedRow{"no generation to come", with(lastGen), join("eve", 2), api.ErrRange},
		refusedRow{"that, and nobody is there", api.Group{Wait: 1, Gen: top}, join("eve", 2), api.ErrRange},
		refusedRow{"that, and it is a member", with(lastGen), join("ann", 2), api.ErrRange},
		refusedRow{"that, and there is no room", fullAndLast, join("new", 2), api.ErrRange},
		refusedRow{"it is a member, the first one", middle(), join("dan", 2), api.ErrTwice},
		refusedRow{"it is a member, the last one", middle(), join("bob", 2), api.ErrTwice},
		refusedRow{"it is a member, silent for too long", late, join("cid", 2), api.ErrTwice},
		refusedRow{"it is a member, and there is no room", with(full), join("fay", 2), api.ErrTwice},
		refusedRow{"there is no room", with(full), join("new", 2), api.ErrFull}))
}

// TestLeave: P6.4, it is a member no more, and all others are assigned anew; what was stored stays.
func TestLeave(t *testing.T) {
	d, a, c, b := middle().Members[dan], middle().Members[ann], middle().Members[cid], middle().Members[bob]
	has := func(m api.Member, parts ...int) api.Member {
		m.Parts = parts
		return m
	}
	alone := api.Group{Clock: 4, Wait: 2, Gen: 1, Members: []api.Member{{Name: "ann", Heard: 1, Parts: []int{0}}}, Offsets: []api.Offset{{Part: 0, At: 3}}}
	runDone(t, []doneRow{
		{"the first one", middle(), leave("dan", 4), anew(has(a, 0, 3), has(c, 2), has(b, 1))},
		{"one between", middle(), leave("ann", 4), anew(has(d, 2), has(c, 1), has(b, 0, 3))},
		{"the last one", middle(), leave("bob", 2), anew(has(d), has(a, 0), has(c, 1))},
		{"without parts", middle(), leave("bob", 0), anew(has(d), has(a), has(c))},
		{"the only one", alone, leave("ann", 4), anew()},
		{"to the last generation", with(func(g *api.Group) { g.Gen = top - 1 }), leave("cid", 3), anew(has(d, 2), has(a, 0), has(b, 1))},
	})
	var rows []refusedRow
	for _, parts := range []int{math.MinInt, -1, api.MaxParts + 1, math.MaxInt} {
		rows = append(rows,
			refusedRow{fmt.Sprint("no such parts: ", parts), middle(), leave("ann", parts), api.ErrRange},
			refusedRow{fmt.Sprint("that, and it is none: ", parts), middle(), leave("eve", parts), api.ErrRange})
	}
	runRefused(t, append(rows,
		refusedRow{"no generation to come", with(lastGen), leave("ann", 2), api.ErrRange},
		refusedRow{"that, and it is none", with(lastGen), leave("eve", 2), api.ErrRange},
		refusedRow{"it is none", middle(), leave("eve", 2), api.ErrNone},
		refusedRow{"nobody is", api.Group{Wait: 1}, leave("ann", 2), api.ErrNone},
		refusedRow{"a name that another one begins with", middle(), leave("an", 2), api.ErrNone},
		refusedRow{"a name that begins with another one", middle(), leave("anna", 2), api.ErrNone}))
}

// TestBeat: P6.5, a member is heard of now, and nothing else is changed.
func TestBeat(t *testing.T) {
	heard := func(at, now int) func(g *api.Group) {
		return func(g *api.Group) { g.Members[at].Heard = now }
	}
	late := with(func(g *api.Group) { g.Clock = top })
	runDone(t, []doneRow{
		{"one that was just heard of", middle(), beat("dan", 7), nil},
		{"one that was silent", middle(), beat("ann", 7), heard(ann, 50)},
		{"one that was silent for long", middle(), beat("cid", 7), heard(cid, 50)},
		{"one without parts", middle(), beat("bob", 7), heard(bob, 50)},
		{"one that was silent for too long", late, beat("cid", 7), heard(cid, top)},
		{"in the last generation", with(lastGen), beat("ann", top), heard(ann, 50)},
		{"in the first generation", with(func(g *api.Group) { g.Gen = 0 }), beat("ann", 0), heard(ann, 50)},
	})
	var rows []refusedRow
	for _, gen := range []int{math.MinInt, -7, -1, 0, 6, 7, 8, top, math.MaxInt} {
		rows = append(rows,
			refusedRow{fmt.Sprint("it is none: ", gen), middle(), beat("eve", gen), api.ErrNone},
			refusedRow{fmt.Sprint("nobody is: ", gen), api.Group{Wait: 1, Gen: 7}, beat("ann", gen), api.ErrNone})
		if gen != 7 {
			rows = append(rows,
				refusedRow{fmt.Sprint("another generation: ", gen), middle(), beat("ann", gen), api.ErrFence},
				refusedRow{fmt.Sprint("another generation, just heard of: ", gen), middle(), beat("dan", gen), api.ErrFence})
		}
	}
	runRefused(t, rows)
}

// TestStore: P6.6, how far a part is read stands among the others, by its part, and nothing else is changed.
func TestStore(t *testing.T) {
	stored := func(l ...api.Offset) func(g *api.Group) {
		return func(g *api.Group) { g.Offsets = l }
	}
	zero, two := middle().Offsets[0], middle().Offsets[1]
	all := with(func(g *api.Group) {
		g.Offsets = []api.Offset{{Part: 0, At: 1}, {Part: 1, At: 2}, {Part: 2, At: 3}, {Part: 3, At: 4}}
	})
	runDone(t, []doneRow{
		{"between others", middle(), store("dan", 7, 1, 5), stored(zero, api.Offset{Part: 1, At: 5}, two)},
		{"behind others", middle(), store("ann", 7, 3, 6), stored(zero, two, api.Offset{Part: 3, At: 6})},
		{"ahead of others", with(func(g *api.Group) { g.Offsets = g.Offsets[1:] }), store("ann", 7, 0, 6), stored(api.Offset{Part: 0, At: 6}, two)},
		{"the only one", with(func(g *api.Group) { g.Offsets = nil }), store("cid", 7, 2, 8), stored(api.Offset{Part: 2, At: 8})},
		{"further on", middle(), store("ann", 7, 0, 18), stored(api.Offset{Part: 0, At: 18}, two)},
		{"the same again", middle(), store("ann", 7, 0, 17), nil},
		{"back", middle(), store("ann", 7, 0, 16), stored(api.Offset{Part: 0, At: 16}, two)},
		{"back to the beginning", middle(), store("cid", 7, 2, 0), stored(zero, api.Offset{Part: 2, At: 0})},
		{"nothing was read", middle(), store("dan", 7, 1, 0), stored(zero, api.Offset{Part: 1, At: 0}, two)},
		{"as far as may be", middle(), store("dan", 7, 1, api.MaxEntries), stored(zero, api.Offset{Part: 1, At: api.MaxEntries}, two)},
		{"where all are stored", all, store("ann", 7, 3, 400), func(g *api.Group) { g.Offsets[3].At = 400 }},
		{"one that two have", with(func(g *api.Group) { g.Members[bob].Parts = []int{0} }), store("bob", 7, 0, 1), stored(api.Offset{Part: 0, At: 1}, two)},
		{"one that was silent for too long", with(func(g *api.Group) { g.Clock = top }), store("cid", 7, 2, 1), stored(zero, api.Offset{Part: 2, At: 1})},
		{"in the last generation", with(lastGen), store("ann", top, 0, 1), stored(api.Offset{Part: 0, At: 1}, two)},
	})
}

// TestStoreRefuses: P6.6, what Beat refuses, then how far, then whose part.
func TestStoreRefuses(t *testing.T) {
	var rows []refusedRow
	for _, part := range []int{math.MinInt, -1, 0, 1, 2, 3, 4, math.MaxInt} {
		for _, at := range []int{math.MinInt, -1, 0, api.MaxEntries, api.MaxEntries + 1, math.MaxInt} {
			s := fmt.Sprint(": ", part, " ", at)
			rows = append(rows,
				refusedRow{"it is none" + s, middle(), store("eve", 7, part, at), api.ErrNone},
				refusedRow{"it is none, nor is the generation" + s, middle(), store("eve", 6, part, at), api.ErrNone},
				refusedRow{"an older generation" + s, middle(), store("ann", 6, part, at), api.ErrFence},
				refusedRow{"a newer generation" + s, middle(), store("ann", 8, part, at), api.ErrFence},
				refusedRow{"no generation" + s, middle(), store("dan", -1, part, at), api.ErrFence})
			switch {
			case at < 0 || at > api.MaxEntries:
				rows = append(rows,
					refusedRow{"there is no such place" + s, middle(), store("ann", 7, part, at), api.ErrRange},
					refusedRow{"there is no such place, without parts" + s, middle(), store("bob", 7, part, at), api.ErrRange})
			case part != 0 && part != 3:
				rows = append(rows, refusedRow{"the part is another's, or none" + s, middle(), store("ann", 7, part, at), api.ErrState})
				fallthrough
			default:
				rows = append(rows, refusedRow{"it has no parts" + s, middle(), store("bob", 7, part, at), api.ErrState})
			}
		}
	}
	runRefused(t, rows)
}

// TestWhere: P6.6, how far a part is read, whoever stored it; 0, if nobody did.
func TestWhere(t *testing.T) {
	g := middle()
	g.Members[bob].Parts = []int{0, 1, 2, 3}
	for _, r := range []struct {
		name       string
		part, want int
	}{
		{"ann", 0, 17}, {"ann", 3, 0}, {"cid", 2, api.MaxEntries}, {"dan", 1, 0},
		{"bob", 0, 17}, {"bob", 1, 0}, {"bob", 2, api.MaxEntries}, {"bob", 3, 0},
	} {
		before := told(g)
		if n, refused := Where(g, r.name, r.part); n != r.want || refused != api.OK || told(g) != before {
			t.Errorf("Where of %s, %d = %d, %v, want %d", r.name, r.part, n, refused, r.want)
		}
	}
	for part := range api.MaxParts {
		for _, at := range []int{0, 1, api.MaxEntries} {
			h, _ := Store(g, "bob", 7, part, at)
			if n, refused := Where(h, "bob", part); n != at || refused != api.OK {
				t.Errorf("Where of %d, where %d was stored: %d, %v", part, at, n, refused)
			}
		}
	}
	var rows []refusedRow
	for _, part := range []int{math.MinInt, -1, 0, 1, 2, 3, 4, math.MaxInt} {
		rows = append(rows,
			refusedRow{fmt.Sprint("it is none: ", part), middle(), where("eve", part), api.ErrNone},
			refusedRow{fmt.Sprint("nobody is: ", part), api.Group{Wait: 1}, where("ann", part), api.ErrNone},
			refusedRow{fmt.Sprint("it has no parts: ", part), middle(), where("bob", part), api.ErrState})
		if part != 0 && part != 3 {
			rows = append(rows, refusedRow{fmt.Sprint("the part is another's, or none: ", part), middle(), where("ann", part), api.ErrState})
		}
	}
	runRefused(t, rows)
}

// TestTick: P6.7, who is silent for as long as may be is out, and all others are assigned anew; else nothing is changed but the Clock.
func TestTick(t *testing.T) {
	passed := func(n int) func(g *api.Group) {
		return func(g *api.Group) { g.Clock += n }
	}
	out := func(n int, members ...api.Member) func(g *api.Group) {
		return func(g *api.Group) {
			g.Clock += n
			anew(members...)(g)
		}
	}
	d, a, b := middle().Members[dan], middle().Members[ann], middle().Members[bob]
	has := func(m api.Member, parts ...int) api.Member {
		m.Parts = parts
		return m
	}
	overdue := with(func(g *api.Group) { g.Members[cid].Heard = 40 })
	waits := with(func(g *api.Group) { g.Clock, g.Wait = 1049, api.MaxWait; setHeard(g, 50) })
	short := with(func(g *api.Group) { g.Wait = 1; setHeard(g, 50) })
	ends := with(func(g *api.Group) { g.Clock = top - 10; setHeard(g, top-19) })
	endsLong := with(func(g *api.Group) { g.Clock, g.Wait = top-10, api.MaxWait; setHeard(g, top-10) })
	runDone(t, []doneRow{
		{"none", middle(), tick(0, 4), nil},
		{"none, and other parts than were assigned", middle(), tick(0, 1), nil},
		{"none, with one that was silent for too long already", overdue, tick(0, 4), out(0, has(d, 2), has(a, 0, 3), has(b, 1))},
		{"one, with one that is silent for so long now", middle(), tick(1, 4), out(1, has(d, 2), has(a, 0, 3), has(b, 1))},
		{"that, without parts", middle(), tick(1, 0), out(1, has(d), has(a), has(b))},
		{"one too few for the second one", middle(), tick(4, 4), out(4, has(d, 2), has(a, 0, 3), has(b, 1))},
		{"just enough for the second one", middle(), tick(5, 4), out(5, has(d, 1, 3), has(b, 0, 2))},
		{"one too few for the last one", middle(), tick(9, 2), out(9, has(d, 0, 1))},
		{"just enough for all", middle(), tick(10, 4), out(10)},
		{"as many as may be", middle(), tick(api.MaxTick, 4), out(api.MaxTick)},
		{"the longest wait, one too few", waits, tick(0, 4), nil},
		{"the longest wait", waits, tick(1, 4), out(1)},
		{"the shortest wait, without a tick", short, tick(0, 4), nil},
		{"the shortest wait", short, tick(1, 4), out(1)},
		{"to the last of the Clock", ends, tick(10, 3), out(10)},
		{"to the last of the Clock, with nobody out", endsLong, tick(10, 3), passed(10)},
		{"none, at the last of the Clock", with(func(g *api.Group) { g.Clock = top; setHeard(g, top-9) }), tick(0, 4), nil},
		{"where nobody is", api.Group{Wait: 5}, tick(7, 4), passed(7)},
		{"to the last generation", with(func(g *api.Group) { g.Gen = top - 1 }), tick(1, 1), out(1, has(d), has(a, 0), has(b))},
		{"to the last but one of them", with(func(g *api.Group) { g.Gen, g.Wait = top-1, 100 }), tick(1, 1), passed(1)},
	})
	var rows []refusedRow
	for _, parts := range []int{math.MinInt, -1, api.MaxParts + 1, math.MaxInt} {
		for _, n := range []int{0, 1, 100} {
			rows = append(rows,
				refusedRow{fmt.Sprint("no such parts: ", parts, ", ", n), middle(), tick(n, parts), api.ErrRange},
				refusedRow{fmt.Sprint("no such parts, where nobody is: ", parts, ", ", n), api.Group{Wait: 5}, tick(n, parts), api.ErrRange})
		}
	}
	runRefused(t, append(rows,
		refusedRow{"below 0", middle(), tick(-1, 4), api.ErrRange},
		refusedRow{"far below 0", middle(), tick(math.MinInt, 4), api.ErrRange},
		refusedRow{"too many", middle(), tick(api.MaxTick+1, 4), api.ErrRange},
		refusedRow{"far too many", middle(), tick(math.MaxInt, 4), api.ErrRange},
		refusedRow{"beyond the last of the Clock", ends, tick(11, 4), api.ErrRange},
		refusedRow{"far beyond it", ends, tick(api.MaxTick, 4), api.ErrRange},
		refusedRow{"one, at the last of the Clock", with(func(g *api.Group) { g.Clock = top }), tick(1, 4), api.ErrRange},
		refusedRow{"no generation to come", with(lastGen), tick(1, 4), api.ErrRange},
		refusedRow{"no generation to come, with nobody out", with(lastGen), tick(0, 4), api.ErrRange},
		refusedRow{"no generation to come, where nobody is", api.Group{Wait: 1, Gen: top}, tick(0, 4), api.ErrRange}))
}
