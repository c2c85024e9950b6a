package coord

import (
	"fmt"
	"math"
	"testing"

	"tailrace/api"
)

// TestInit: P5.3, producers that are new, and such as are known.
func TestInit(t *testing.T) {
	enters := func(s string, pid int) func(c *api.Coord) {
		return func(c *api.Coord) {
			c.Next = pid + 1
			c.Txns = append(c.Txns, api.Txn{Name: s, Pid: pid, Ver: 0, State: api.Empty, Since: 0, Done: 0})
		}
	}
	runDone(t, []doneRow{
		{"the first one", api.Coord{Next: 1, Wait: 5}, initOf("ann"), enters("ann", 1), [2]int{1, 0}},
		{"a new one stands behind all", middle(), initOf("aaa"), enters("aaa", 9), [2]int{9, 0}},
		{"the last Pid", with(func(c *api.Coord) { c.Next = top - 1 }), initOf("hal"), enters("hal", top-1), [2]int{top - 1, 0}},
		{"Pids are not used again", api.Coord{Clock: 3, Next: 5, Wait: 1}, initOf("hal"), enters("hal", 5), [2]int{5, 0}},
		{"one that is empty", middle(), initOf("ann"), func(c *api.Coord) { c.Txns[ann].Ver = 1 }, [2]int{1, 1}},
		{"one that has committed keeps that", middle(), initOf("eve"), func(c *api.Coord) { c.Txns[eve].Ver = 8 }, [2]int{5, 8}},
		{"one that has aborted keeps that", middle(), initOf("fay"), func(c *api.Coord) { c.Txns[fay].Ver = 4 }, [2]int{6, 4}},
		{"one that is ongoing", middle(), initOf("bob"),
			func(c *api.Coord) { c.Txns[bob].Ver, c.Txns[bob].State = 3, api.Aborted }, [2]int{4, 3}},
		{"one that is ongoing, and has ended none", middle(), initOf("guy"),
			func(c *api.Coord) { c.Txns[guy].Ver, c.Txns[guy].State = 1, api.Aborted }, [2]int{3, 1}},
		{"the last Ver", with(func(c *api.Coord) { c.Txns[bob].Ver = top - 1 }), initOf("bob"),
			func(c *api.Coord) { c.Txns[bob].Ver, c.Txns[bob].State = top, api.Aborted }, [2]int{4, top}},
		{"one that is known, where all is full", with(full), initOf("ann"), func(c *api.Coord) { c.Txns[ann].Ver = 1 }, [2]int{1, 1}},
		{"one that is known, without Pids to come", with(func(c *api.Coord) { c.Next = top }), initOf("ann"),
			func(c *api.Coord) { c.Txns[ann].Ver = 1 }, [2]int{1, 1}},
	})
	lastVer := func(at int) api.Coord { return with(func(c *api.Coord) { c.Txns[at].Ver = top }) }
	runRefused(t, []refusedRow{
		{"all is full", with(full), initOf("new"), api.ErrFull},
		{"there is no Pid to come", with(func(c *api.Coord) { c.Next = top }), initOf("new"), api.ErrFull},
		{"there is no Pid to come, for the first one", api.Coord{Next: top, Wait: 1}, initOf("new"), api.ErrFull},
		{"both", with(func(c *api.Coord) { full(c); c.Next = top }), initOf("new"), api.ErrFull},
		{"it is committed", middle(), initOf("cid"), api.ErrState},
		{"it is aborted", middle(), initOf("dot"), api.ErrState},
		{"it is committed, and has no Ver to come", lastVer(cid), initOf("cid"), api.ErrState},
		{"it is aborted, and has no Ver to come", lastVer(dot), initOf("dot"), api.ErrState},
		{"it is empty, and has no Ver to come", lastVer(eve), initOf("eve"), api.ErrRange},
		{"it is ongoing, and has no Ver to come", lastVer(bob), initOf("bob"), api.ErrRange},
	})
}

// TestAdd: P5.4, a transaction begins with its first part, now, and has all that are added, in their order.
func TestAdd(t *testing.T) {
	begins := func(at, part int) func(c *api.Coord) {
		return func(c *api.Coord) {
			c.Txns[at].State, c.Txns[at].Since, c.Txns[at].Parts = api.Ongoing, 50, []int{part}
		}
	}
	has := func(at int, parts ...int) func(c *api.Coord) {
		return func(c *api.Coord) { c.Txns[at].Parts = parts }
	}
	lasts := with(func(c *api.Coord) { c.Txns[bob].Ver, c.Txns[bob].Since = top, 0 })
	runDone(t, []doneRow{
		{"it begins", middle(), add("ann", 0, 2), begins(ann, 2), [2]int{}},
		{"it begins, with the first part", middle(), add("ann", 0, 0), begins(ann, 0), [2]int{}},
		{"it begins, with the last part", middle(), add("ann", 0, 3), begins(ann, 3), [2]int{}},
		{"it begins, behind one that was committed", middle(), add("eve", 7, 1), begins(eve, 1), [2]int{}},
		{"it begins, behind one that was aborted", middle(), add("fay", 3, 1), begins(fay, 1), [2]int{}},
		{"a part ahead of all", middle(), add("bob", 2, 0), has(bob, 0, 1, 3), [2]int{}},
		{"a part between", middle(), add("bob", 2, 2), has(bob, 1, 2, 3), [2]int{}},
		{"a part behind all", middle(), add("guy", 0, 3), has(guy, 0, 3), [2]int{}},
		{"the first part again", middle(), add("bob", 2, 1), nil, [2]int{}},
		{"the last part again", middle(), add("bob", 2, 3), nil, [2]int{}},
		{"the only part again", middle(), add("guy", 0, 0), nil, [2]int{}},
		{"the last of all", with(func(c *api.Coord) { c.Txns[bob].Parts = []int{0, 1, 3} }), add("bob", 2, 2), has(bob, 0, 1, 2, 3), [2]int{}},
		{"with the last Ver, since long", lasts, add("bob", top, 0), has(bob, 0, 1, 3), [2]int{}},
	})
	var rows []refusedRow
	for _, part := range []int{math.MinInt, -1, api.MaxParts, api.MaxParts + 1, math.MaxInt} {
		for _, p := range middle().Txns {
			rows = append(rows, refusedRow{fmt.Sprint("no such part: ", part, " for ", p.Name), middle(), add(p.Name, p.Ver, part), api.ErrRange})
		}
	}
	for part := range api.MaxParts {
		rows = append(rows,
			refusedRow{fmt.Sprint("it is committed: ", part), middle(), add("cid", 5, part), api.ErrState},
			refusedRow{fmt.Sprint("it is aborted: ", part), middle(), add("dot", 1, part), api.ErrState})
	}
	runRefused(t, rows)
}

// TestEnd: P5.5, all states, all that Done may be, and both that may be wanted.
func TestEnd(t *testing.T) {
	is := func(state, last int) func(c *api.Coord) {
		return func(c *api.Coord) {
			p := &c.Txns[bob]
			p.State, p.Done = state, last
			if state == api.Empty {
				p.Parts = nil
			}
		}
	}
	const stays, refused = 0, -1
	for _, r := range []struct {
		state, last int
		commit      bool
		becomes     int // its State then, or, of one that is Empty, Done
	}{
		{api.Empty, 0, true, api.Committed},
		{api.Empty, 0, false, api.Aborted},
		{api.Empty, api.Committed, true, stays},
		{api.Empty, api.Committed, false, refused},
		{api.Empty, api.Aborted, true, refused},
		{api.Empty, api.Aborted, false, stays},
		{api.Ongoing, 0, true, api.Committed},
		{api.Ongoing, 0, false, api.Aborted},
		{api.Ongoing, api.Committed, true, api.Committed},
		{api.Ongoing, api.Committed, false, api.Aborted},
		{api.Ongoing, api.Aborted, true, api.Committed},
		{api.Ongoing, api.Aborted, false, api.Aborted},
		{api.Committed, 0, true, stays},
		{api.Committed, 0, false, refused},
		{api.Committed, api.Committed, true, stays},
		{api.Committed, api.Committed, false, refused},
		{api.Committed, api.Aborted, true, stays},
		{api.Committed, api.Aborted, false, refused},
		{api.Aborted, 0, true, refused},
		{api.Aborted, 0, false, stays},
		{api.Aborted, api.Committed, true, refused},
		{api.Aborted, api.Committed, false, stays},
		{api.Aborted, api.Aborted, true, refused},
		{api.Aborted, api.Aborted, false, stays},
	} {
		name := fmt.Sprint("State ", r.state, ", Done ", r.last, ", commit ", r.commit)
		was, call := with(is(r.state, r.last)), end("bob", 2, r.commit)
		if r.becomes == refused {
			runRefused(t, []refusedRow{{name, was, call, api.ErrState}})
			continue
		}
		row := doneRow{name: name, was: was, call: call}
		if r.becomes != stays {
			row.change = func(c *api.Coord) {
				if r.state == api.Empty {
					c.Txns[bob].Done = r.becomes
				} else {
					c.Txns[bob].State = r.becomes
				}
			}
		}
		runDone(t, []doneRow{row})
	}
}

// TestEndOfOthers: P5.5, it is the one that is named that ends, at the edges of versions and places, too.
func TestEndOfOthers(t *testing.T) {
	runDone(t, []doneRow{
		{"the first one", middle(), end("ann", 0, true), func(c *api.Coord) { c.Txns[ann].Done = api.Committed }, [2]int{}},
		{"the last one", middle(), end("guy", 0, false), func(c *api.Coord) { c.Txns[guy].State = api.Aborted }, [2]int{}},
		{"the last Ver", with(func(c *api.Coord) { c.Txns[guy].Ver = top }), end("guy", top, true),
			func(c *api.Coord) { c.Txns[guy].State = api.Committed }, [2]int{}},
	})
}

// TestNext: P5.6, whose markers are on their way, in the order of producers.
func TestNext(t *testing.T) {
	commit := func(pid, ver int) api.Entry { return api.Entry{Kind: api.Commit, Txn: true, Pid: pid, Ver: ver} }
	abort := func(pid, ver int) api.Entry { return api.Entry{Kind: api.Abort, Txn: true, Pid: pid, Ver: ver} }
	ended := with(func(c *api.Coord) { c.Txns[bob].State, c.Txns[guy].State = api.Aborted, api.Committed })
	lasts := with(func(c *api.Coord) { c.Next, c.Txns[cid].Ver, c.Txns[cid].Pid = top, top, top-1 })
	all := with(full)
	for i := range all.Txns {
		all.Txns[i].State, all.Txns[i].Parts = api.Committed, []int{i % 4}
	}
	for _, r := range []struct {
		name string
		was  api.Coord
		n    int
		s    string
		part int
		e    api.Entry
	}{
		{"the first one", middle(), 0, "cid", 0, commit(2, 5)},
		{"the last one", middle(), 1, "dot", 3, abort(8, 1)},
		{"more: the first one", ended, 0, "bob", 1, abort(4, 2)},
		{"more: the second one", ended, 1, "cid", 0, commit(2, 5)},
		{"more: the third one", ended, 2, "dot", 3, abort(8, 1)},
		{"more: the last one", ended, 3, "guy", 0, commit(3, 0)},
		{"the last numbers", lasts, 0, "cid", 0, commit(top-1, top)},
		{"all: the first one", all, 0, "ann", 0, commit(1, 0)},
		{"all: the last one", all, 7, "hal", 3, commit(7, 0)},
	} {
		before := told(r.was)
		s, part, e, refused := Next(r.was, r.n)
		if s != r.s || part != r.part || e != r.e || refused != api.OK {
			t.Errorf("%s: %q, %d, %v, %v, want %q, %d, %v", r.name, s, part, e, refused, r.s, r.part, r.e)
		}
		if told(r.was) != before {
			t.Errorf("%s: what was handed in was changed: %v", r.name, r.was)
		}
	}
	var rows []refusedRow
	for _, n := range []int{math.MinInt, math.MinInt + 1, -2, -1, 8, top, math.MaxInt - 1, math.MaxInt} {
		for name, c := range map[string]api.Coord{"two": middle(), "four": ended, "all": all, "nobody": {Next: 1, Wait: 1}} {
			rows = append(rows, refusedRow{fmt.Sprint(name, ": there is none, at ", n), c, next(n), api.ErrIdle})
		}
	}
	rows = append(rows,
		refusedRow{"behind the last one", middle(), next(2), api.ErrIdle},
		refusedRow{"behind the last of four", ended, next(4), api.ErrIdle},
		refusedRow{"of none", with(func(c *api.Coord) { c.Txns = c.Txns[:cid] }), next(0), api.ErrIdle})
	runRefused(t, rows)
}

// TestDone: P5.6, parts that have their markers, in any order; the last one ends it.
func TestDone(t *testing.T) {
	left := func(at int, parts ...int) func(c *api.Coord) {
		return func(c *api.Coord) { c.Txns[at].Parts = parts }
	}
	ends := func(at, last int) func(c *api.Coord) {
		return func(c *api.Coord) {
			c.Txns[at].State, c.Txns[at].Done, c.Txns[at].Parts = api.Empty, last, nil
		}
	}
	alone := with(func(c *api.Coord) { c.Txns[cid].Parts = []int{2} })
	lots := with(func(c *api.Coord) { c.Txns[dot].Parts = []int{0, 1, 2, 3} })
	runDone(t, []doneRow{
		{"the first one of two", middle(), done("cid", 0), left(cid, 2), [2]int{}},
		{"the last one of two", middle(), done("cid", 2), left(cid, 0), [2]int{}},
		{"between others", lots, done("dot", 2), left(dot, 0, 1, 3), [2]int{}},
		{"the first one of four", lots, done("dot", 0), left(dot, 1, 2, 3), [2]int{}},
		{"the only one: it was committed", alone, done("cid", 2), ends(cid, api.Committed), [2]int{}},
		{"the only one: it was aborted", middle(), done("dot", 3), ends(dot, api.Aborted), [2]int{}},
		{"the only one: it is aborted, and was committed last", with(func(c *api.Coord) { c.Txns[dot].Done = api.Committed }), done("dot", 3),
			ends(dot, api.Aborted), [2]int{}},
	})
	var rows []refusedRow
	for _, part := range []int{math.MinInt, -1, 0, 1, 3, api.MaxParts, math.MaxInt} {
		rows = append(rows,
			refusedRow{fmt.Sprint("not known: ", part), middle(), done("hal", part), api.ErrNone},
			refusedRow{fmt.Sprint("nobody is known: ", part), api.Coord{Next: 1, Wait: 1}, done("ann", part), api.ErrNone},
			refusedRow{fmt.Sprint("ongoing: ", part), middle(), done("bob", part), api.ErrState},
			refusedRow{fmt.Sprint("ongoing, with that part alone: ", part), middle(), done("guy", part), api.ErrState},
			refusedRow{fmt.Sprint("empty: ", part), middle(), done("ann", part), api.ErrState},
			refusedRow{fmt.Sprint("empty, and committed last: ", part), middle(), done("eve", part), api.ErrState},
			refusedRow{fmt.Sprint("empty, and aborted last: ", part), middle(), done("fay", part), api.ErrState})
	}
	for _, part := range []int{math.MinInt, -1, 1, 3, api.MaxParts, math.MaxInt} {
		rows = append(rows, refusedRow{fmt.Sprint("it has no such part: ", part), middle(), done("cid", part), api.ErrNone})
	}
	for _, part := range []int{math.MinInt, -1, 0, 2, api.MaxParts, math.MaxInt} {
		rows = append(rows, refusedRow{fmt.Sprint("it has no such part: ", part), middle(), done("dot", part), api.ErrNone})
	}
	runRefused(t, rows)
}

// TestTick: P5.7, what lasts for so long as may be is aborted, and nothing else is changed but the Clock.
func TestTick(t *testing.T) {
	ticked := func(n int, late ...int) func(c *api.Coord) {
		return func(c *api.Coord) {
			c.Clock += n
			for _, at := range late {
				c.Txns[at].State = api.Aborted
				c.Txns[at].Ver++
			}
		}
	}
	lastVer := with(func(c *api.Coord) { c.Txns[bob].Ver, c.Txns[guy].Ver = top, top-1 })
	waits := with(func(c *api.Coord) { c.Clock, c.Wait = 1049, api.MaxWait; setSince(c, 50) })
	ends := with(func(c *api.Coord) { c.Clock = top - 10; setSince(c, top-12) })
	overdue := with(func(c *api.Coord) { c.Txns[guy].Since = 40 })
	runDone(t, []doneRow{
		{"none", middle(), tick(0), nil, [2]int{}},
		{"one, with what is late now", middle(), tick(1), ticked(1, guy), [2]int{}},
		{"none, with what was late already", overdue, tick(0), ticked(0, guy), [2]int{}},
		{"one too few for the other one", middle(), tick(4), ticked(4, guy), [2]int{}},
		{"just enough for both", middle(), tick(5), ticked(5, bob, guy), [2]int{}},
		{"as many as may be", middle(), tick(api.MaxTick), ticked(api.MaxTick, bob, guy), [2]int{}},
		{"no Ver to come, and the last one", lastVer, tick(500), ticked(500, guy), [2]int{}},
		{"the longest wait, one too few", waits, tick(0), nil, [2]int{}},
		{"the longest wait", waits, tick(1), ticked(1, bob, guy), [2]int{}},
		{"to the last of the Clock", ends, tick(10), ticked(10, bob, guy), [2]int{}},
		{"to one ahead of that", ends, tick(9), ticked(9, bob, guy), [2]int{}},
		{"none, at the last of the Clock", with(func(c *api.Coord) { c.Clock = top; setSince(c, top-9) }), tick(0), nil, [2]int{}},
		{"where nobody is known", api.Coord{Next: 1, Wait: 5}, tick(7), ticked(7), [2]int{}},
		{"the shortest wait, without a tick", with(func(c *api.Coord) { c.Wait = 1; setSince(c, 50) }), tick(0), nil, [2]int{}},
		{"the shortest wait", with(func(c *api.Coord) { c.Wait = 1; setSince(c, 50) }), tick(1), ticked(1, bob, guy), [2]int{}},
	})
	runRefused(t, []refusedRow{
		{"below 0", middle(), tick(-1), api.ErrRange},
		{"far below 0", middle(), tick(math.MinInt), api.ErrRange},
		{"too many", middle(), tick(api.MaxTick + 1), api.ErrRange},
		{"far too many", middle(), tick(math.MaxInt), api.ErrRange},
		{"beyond the last of the Clock", ends, tick(11), api.ErrRange},
		{"far beyond it", ends, tick(api.MaxTick), api.ErrRange},
		{"one, at the last of the Clock", with(func(c *api.Coord) { c.Clock = top }), tick(1), api.ErrRange},
		{"below 0, at the last of the Clock", with(func(c *api.Coord) { c.Clock = top }), tick(-1), api.ErrRange},
	})
}
