package part

import (
	"fmt"
	"math"
	"slices"
	"testing"

	"tailrace/api"
)

// TestCrash: P4.7, what is left of a replica that crashes, and that the leader leads no more.
func TestCrash(t *testing.T) {
	// goes: what is left of replica 1, whose last entry has 12 bytes that are not safe.
	goes := func(high int, epochs ...int) func(p *api.Part) {
		return func(p *api.Part) {
			p.Leader, p.Known[1] = -1, 0
			p.Replicas[1] = api.Replica{Log: logOf(len(epochs), epochs...), High: high}
		}
	}
	atRisk := func(p *api.Part) { p.Replicas[1].Log.Synced = 0 }
	runDone(t, []doneRow{
		{"the leader", middle(), crash(1, 0), goes(3, 1, 1, 2, 3, 3), 0},
		{"the leader, with a byte too few", middle(), crash(1, 11), goes(3, 1, 1, 2, 3, 3), 0},
		{"the leader, with all", middle(), crash(1, 12), goes(3, 1, 1, 2, 3, 3, 4), 0},
		{"the leader, with more than there are", middle(), crash(1, math.MaxInt), goes(3, 1, 1, 2, 3, 3, 4), 0},
		{"nothing is safe", with(atRisk), crash(1, 0), goes(0), 0},
		{"nothing is safe, and the first one stays", with(atRisk), crash(1, 23), goes(1, 1), 0},
		{"nothing is safe, and as many as High stay", with(atRisk), crash(1, 36), goes(3, 1, 1, 2), 0},
		{"one that keeps up does so still", middle(), crash(0, 1),
			func(p *api.Part) { p.Known[0] = 0; p.Replicas[0] = api.Replica{Log: logOf(4, 1, 1, 2, 2), High: 2} }, 0},
		{"one that does not", middle(), crash(2, 12),
			func(p *api.Part) { p.Known[2] = 0; p.Replicas[2] = api.Replica{Log: logOf(3, 1, 1, 2), High: 1} }, 0},
		{"while nobody leads", with(leaderless), crash(1, 0), goes(3, 1, 1, 2, 3, 3), 0},
		{"the last one that is up", with(func(p *api.Part) { clearUp(p); p.Replicas[1].Up = true }), crash(1, 0), goes(3, 1, 1, 2, 3, 3), 0},
		{"an empty one", with(func(p *api.Part) { p.Replicas[2] = api.Replica{Up: true} }), crash(2, 5),
			func(p *api.Part) { p.Known[2], p.Replicas[2].Up = 0, false }, 0},
	})
	runRefused(t, []refusedRow{
		{"it is down", middle(), crash(3, 0), api.ErrDown},
		{"it is down, with less than 0", middle(), crash(3, -1), api.ErrDown},
		{"with less than 0", middle(), crash(1, -1), api.ErrRange},
		{"with far less than 0", middle(), crash(0, math.MinInt), api.ErrRange},
		{"with less than 0, while nobody leads", with(leaderless), crash(2, -1), api.ErrRange},
	})
}

// TestRise: P4.7, a replica is up, and nothing else.
func TestRise(t *testing.T) {
	up := func(p *api.Part) { p.Replicas[3].Up = true }
	runDone(t, []doneRow{
		{"one that keeps up", middle(), of(Rise, 3), up, 0},
		{"one that does not", with(func(p *api.Part) { p.Isr[3] = false }), of(Rise, 3), up, 0},
		{"while nobody leads", with(leaderless), of(Rise, 3), up, 0},
		{"the first one that is up", with(func(p *api.Part) { leaderless(p); clearUp(p) }), of(Rise, 3), up, 0},
	})
	runRefused(t, []refusedRow{
		{"it is up", middle(), of(Rise, 0), api.ErrTwice},
		{"it leads", middle(), of(Rise, 1), api.ErrTwice},
		{"it is up, and does not keep up", middle(), of(Rise, 2), api.ErrTwice},
	})
}

// TestWipe: P4.8, nothing is left of a replica that is down, but never of the last one that keeps up.
func TestWipe(t *testing.T) {
	only := func(r int, up bool) api.Part {
		return with(func(p *api.Part) {
			leaderless(p)
			p.Isr = make([]bool, 4)
			p.Isr[r] = true
			p.Replicas[r].Up = up
		})
	}
	wiped := func(r int) func(p *api.Part) {
		return func(p *api.Part) { p.Isr[r], p.Known[r], p.Replicas[r] = false, 0, api.Replica{} }
	}
	runDone(t, []doneRow{
		{"one that keeps up", middle(), of(Wipe, 3), wiped(3), 0},
		{"High does not rise", with(func(p *api.Part) { p.Known = []int{5, 5, 5, 3} }), of(Wipe, 3), wiped(3), 0},
		{"one that does not keep up", with(func(p *api.Part) { p.Isr[3] = false }), of(Wipe, 3), wiped(3), 0},
		{"one that does not, and one other that does", only(0, true), of(Wipe, 3), wiped(3), 0},
		{"one that does not, and one other that is down", only(0, false), of(Wipe, 3), wiped(3), 0},
		{"one of two that are down", with(func(p *api.Part) {
			leaderless(p)
			clearUp(p)
			p.Isr = []bool{true, false, false, true}
		}), of(Wipe, 0), wiped(0), 0},
	})
	runRefused(t, []refusedRow{
		{"it is up", middle(), of(Wipe, 0), api.ErrState},
		{"it leads", middle(), of(Wipe, 1), api.ErrState},
		{"it is up, and does not keep up", middle(), of(Wipe, 2), api.ErrState},
		{"it is up, and no other one keeps up", only(2, true), of(Wipe, 2), api.ErrState},
		{"no other one keeps up", only(3, false), of(Wipe, 3), api.ErrLeader},
	})
}

// TestElect: P4.9, who leads, in which Epoch, and what it knows then.
func TestElect(t *testing.T) {
	leads := func(r, epoch, safe, n int) func(p *api.Part) {
		return func(p *api.Part) {
			p.Leader, p.Epoch, p.Base = r, epoch, n
			p.Known = make([]int, 4)
			p.Known[r] = safe
		}
	}
	last := func(p *api.Part) { p.Epoch = top }
	runDone(t, []doneRow{
		{"while another one leads", middle(), of(Elect, 0), leads(0, 5, 4, 5), 0},
		{"while nobody leads", with(leaderless), of(Elect, 1), leads(1, 5, 5, 6), 0},
		{"the first Epoch", with(func(p *api.Part) { p.Epoch = 0 }), of(Elect, 0), leads(0, 1, 4, 5), 0},
		{"the last Epoch that may be", with(func(p *api.Part) { p.Epoch = top - 1 }), of(Elect, 0), leads(0, top, 4, 5), 0},
		{"an empty log", with(func(p *api.Part) { p.Replicas[0] = api.Replica{Up: true} }), of(Elect, 0), leads(0, 5, 0, 0), 0},
		{"nothing is safe", with(func(p *api.Part) { p.Replicas[0].Log.Synced = 0 }), of(Elect, 0), leads(0, 5, 0, 5), 0},
		{"High does not fall", with(func(p *api.Part) { p.Replicas[0].High = 5 }), of(Elect, 0), leads(0, 5, 4, 5), 0},
	})
	runRefused(t, []refusedRow{
		{"it is down", middle(), of(Elect, 3), api.ErrDown},
		{"it is down, and does not keep up", with(func(p *api.Part) { p.Isr[3] = false; last(p) }), of(Elect, 3), api.ErrDown},
		{"it is down, in the last Epoch", with(last), of(Elect, 3), api.ErrDown},
		{"it does not keep up", middle(), of(Elect, 2), api.ErrBehind},
		{"it does not keep up, in the last Epoch", with(last), of(Elect, 2), api.ErrBehind},
		{"it does not keep up, nobody leads", with(leaderless), of(Elect, 2), api.ErrBehind},
		{"it leads", middle(), of(Elect, 1), api.ErrTwice},
		{"it leads, in the last Epoch", with(last), of(Elect, 1), api.ErrTwice},
		{"the last Epoch", with(last), of(Elect, 0), api.ErrRange},
		{"the last Epoch, nobody leads", with(func(p *api.Part) { last(p); leaderless(p) }), of(Elect, 1), api.ErrRange},
	})
}

// TestShrink: P4.10, a replica does not keep up any more.
func TestShrink(t *testing.T) {
	runDone(t, []doneRow{
		{"one that is up", middle(), of(Shrink, 0), func(p *api.Part) { p.Isr[0] = false }, 0},
		{"one that is down", middle(), of(Shrink, 3), func(p *api.Part) { p.Isr[3] = false }, 0},
		{"the last other one", with(func(p *api.Part) { p.Isr[0] = false }), of(Shrink, 3), func(p *api.Part) { p.Isr[3] = false; setHighs(p, 2, 5) }, 0},
	})
	runRefused(t, []refusedRow{
		{"nobody leads", with(leaderless), of(Shrink, 0), api.ErrLeader},
		{"nobody leads, and it does not keep up", with(leaderless), of(Shrink, 2), api.ErrLeader},
		{"it leads", middle(), of(Shrink, 1), api.ErrLeader},
		{"it leads alone", with(func(p *api.Part) { p.Isr = []bool{false, true, false, false} }), of(Shrink, 1), api.ErrLeader},
		{"it does not keep up", middle(), of(Shrink, 2), api.ErrBehind},
		{"it does not keep up, and is down", with(func(p *api.Part) { p.Isr[3] = false }), of(Shrink, 3), api.ErrBehind},
	})
}

// TestExpand: P4.10, a replica of which enough is known keeps up again.
func TestExpand(t *testing.T) {
	state := func(known, base, high int) api.Part {
		return with(func(p *api.Part) { p.Known[2], p.Base, p.Replicas[1].High = known, base, high })
	}
	keeps := func(p *api.Part) { p.Isr[2] = true }
	runDone(t, []doneRow{
		{"as many as Base", state(5, 5, 3), of(Expand, 2), keeps, 0},
		{"as many as High", state(5, 2, 5), of(Expand, 2), keeps, 0},
		{"as many as both", state(5, 5, 5), of(Expand, 2), keeps, 0},
		{"more than both, and High does not rise", state(6, 1, 0), of(Expand, 2), keeps, 0},
		{"nothing, where nothing is asked", state(0, 0, 0), of(Expand, 2), keeps, 0},
	})
	down := func(known int) api.Part {
		return with(func(p *api.Part) { p.Isr[3], p.Known[3] = false, known })
	}
	runRefused(t, []refusedRow{
		{"nobody leads", with(leaderless), of(Expand, 2), api.ErrLeader},
		{"nobody leads, and it keeps up", with(leaderless), of(Expand, 0), api.ErrLeader},
		{"it leads", middle(), of(Expand, 1), api.ErrLeader},
		{"it keeps up", middle(), of(Expand, 0), api.ErrTwice},
		{"it keeps up, and is down", middle(), of(Expand, 3), api.ErrTwice},
		{"it is down", down(6), of(Expand, 3), api.ErrDown},
		{"it is down, and behind", down(0), of(Expand, 3), api.ErrDown},
		{"below Base", state(4, 5, 3), of(Expand, 2), api.ErrBehind},
		{"below High", state(4, 3, 5), of(Expand, 2), api.ErrBehind},
		{"below both", state(0, 1, 1), of(Expand, 2), api.ErrBehind},
	})
}

// TestRead: P4.11, texts of the leader's entries, up to its High.
func TestRead(t *testing.T) {
	inTxn := func(p *api.Part) {
		p.Replicas[1].Log = logWith(0,
			api.Entry{Kind: api.Data, Text: "a"},
			api.Entry{Kind: api.Data, Pid: 7, Txn: true, Text: "b"},
			api.Entry{Kind: api.Data, Text: "c"},
			api.Entry{Kind: api.Commit, Pid: 7, Txn: true},
			api.Entry{Kind: api.Data, Text: "d"})
	}
	high := func(n int) api.Part {
		return with(func(p *api.Part) { inTxn(p); p.Replicas[1].High = n })
	}
	for _, r := range []struct {
		name       string
		p          api.Part
		from, most int
		texts      []string
		n          int
	}{
		{"all up to High", middle(), 0, 20, []string{"1at0", "1at1", "2at2"}, 3},
		{"at most two", middle(), 0, 2, []string{"1at0", "1at1"}, 2},
		{"from a place on", middle(), 2, 5, []string{"2at2"}, 3},
		{"from High on", middle(), 3, 5, nil, 3},
		{"from above High on", middle(), 5, 5, nil, 5},
		{"from the end on", middle(), 6, 1, nil, 6},
		{"High is 0", high(0), 0, 5, nil, 0},
		{"a transaction that is open below High", high(3), 0, 5, []string{"a"}, 1},
		{"a transaction that is done", high(4), 0, 5, []string{"a", "b", "c"}, 4},
		{"High is all", high(5), 1, 20, []string{"b", "c", "d"}, 5},
		{"another one leads", with(func(p *api.Part) { p.Leader = 0 }), 0, 5, []string{"1at0", "1at1"}, 2},
	} {
		before := told(r.p)
		texts, n, refused := Read(r.p, r.from, r.most)
		if refused != api.OK || n != r.n || !slices.Equal(texts, r.texts) || told(r.p) != before {
			t.Errorf("%s: Read from %d, at most %d: %q, %d, %v, want %q, %d", r.name, r.from, r.most, texts, n, refused, r.texts, r.n)
		}
	}
	runRefused(t, []refusedRow{
		{"nobody leads", with(leaderless), read(0, 1), api.ErrLeader},
		{"nobody leads, from -1", with(leaderless), read(-1, 0), api.ErrLeader},
		{"from -1", middle(), read(-1, 1), api.ErrRange},
		{"from behind the end", middle(), read(7, 1), api.ErrRange},
		{"from the greatest number", middle(), read(math.MaxInt, 1), api.ErrRange},
		{"at most 0", middle(), read(0, 0), api.ErrRange},
		{"at most too many", middle(), read(0, api.MaxRead+1), api.ErrRange},
		{"at most the least number", middle(), read(0, math.MinInt), api.ErrRange},
	})
}

// TestWhole: the document's example of the whole.
func TestWhole(t *testing.T) {
	p, refused := New(2, 1)
	step := func(name string, call answer, want int) {
		t.Helper()
		q, n, refused := call(p)
		if refused != api.OK || n != want {
			t.Fatalf("%s: %d, %v, want %d", name, n, refused, want)
		}
		p = q
	}
	reads := func(want string) {
		t.Helper()
		if texts, n, refused := Read(p, 0, 5); fmt.Sprint(texts, n, int(refused)) != want {
			t.Fatalf("Read: %q, %d, %v, want %s", texts, n, refused, want)
		}
	}
	if refused != api.OK {
		t.Fatal(refused)
	}
	step("the first one leads", of(Elect, 0), 0)
	step("ann sends", put(api.Entry{Kind: api.Data, Pid: 1, Text: "x"}), 0)
	step("it is synced", of(Sync, 0), 0)
	reads("[] 0 0")
	step("the second one fetches", fetch(1), 1)
	step("it syncs", of(Sync, 1), 0)
	reads("[] 0 0")
	step("it fetches again", fetch(1), 0)
	reads("[x] 1 0")
	step("the first one crashes", crash(0, 0), 0)
	step("the second one leads", of(Elect, 1), 0)
	reads("[x] 1 0")
}
