package broker

import (
	"fmt"
	"math"
	"strings"
	"testing"

	"tailrace/api"
	"tailrace/part"
	"tailrace/seg"
)

func initOf(name string) api.Act { return api.Act{Kind: api.Init, Name: name} }

func begins(name string) api.Act { return api.Act{Kind: api.Begin, Name: name} }

func sends(name string, to int, text string) api.Act {
	return api.Act{Kind: api.Send, Name: name, Part: to, Text: text}
}

func again(name string, to int) api.Act { return api.Act{Kind: api.Again, Name: name, Part: to} }

func finishes(name string, n int) api.Act { return api.Act{Kind: api.Finish, Name: name, N: n} }

func marks(n int) api.Act { return api.Act{Kind: api.Mark, N: n} }

func ticks(n int) api.Act { return api.Act{Kind: api.Tick, N: n} }

// of a replica of a part: an act of a kind.
func of(kind, at, r int) api.Act { return api.Act{Kind: kind, Part: at, N: r} }

func crash(at, r, keep int) api.Act { return api.Act{Kind: api.Crash, Part: at, N: r, M: keep} }

func joins(name string) api.Act { return api.Act{Kind: api.Join, Name: name} }

func leaves(name string) api.Act { return api.Act{Kind: api.Leave, Name: name} }

func beats(name string, gen int) api.Act { return api.Act{Kind: api.Beat, Name: name, N: gen} }

func stores(name string, gen, at, far int) api.Act {
	return api.Act{Kind: api.Offsets, Name: name, N: gen, Part: at, M: far}
}

func polls(name string, at, most int) api.Act {
	return api.Act{Kind: api.Poll, Name: name, Part: at, N: most}
}

// lost: a call that is lost so.
func lost(how int, a api.Act) api.Act {
	a.Lost = how
	return a
}

// step of a scene: an act, and what is answered.
type step struct {
	act  api.Act
	want api.Answer
	left bool // it is refused, and leaves something all the same
}

// done: an act that is answered with a number, and with texts.
func done(a api.Act, n int, texts ...string) step {
	return step{act: a, want: api.Answer{N: n, Texts: texts}}
}

// refused: an act that leaves nothing.
func refused(a api.Act, why api.Errno) step { return step{act: a, want: api.Answer{Code: why}} }

// leaving: an act that is refused, but of which something stays.
func leaving(a api.Act, why api.Errno) step {
	return step{act: a, want: api.Answer{Code: why}, left: true}
}

// told: anything as one text; lists without elements are alike in it.
func told(x any) string { return fmt.Sprintf("%+v", x) }

func actsOf(steps []step) []api.Act {
	var l []api.Act
	for _, s := range steps {
		l = append(l, s.act)
	}
	return l
}

// play a scene, act by act: the world behind it.
func play(t *testing.T, s api.Setup, steps []step) api.World {
	t.Helper()
	l := actsOf(steps)
	_, before, _ := Run(s, nil)
	for i, st := range steps {
		answers, w, e := Run(s, l[:i+1])
		if e != api.OK || len(answers) != i+1 {
			t.Fatalf("%d acts: %d answers, %v", i+1, len(answers), e)
		}
		if told(answers[i]) != told(st.want) {
			t.Fatalf("act %d, %+v: %+v, want %+v; the world: %+v", i, st.act, answers[i], st.want, w)
		}
		if st.want.Code != api.OK && (told(w) != told(before)) != st.left {
			t.Fatalf("act %d, %+v, was refused, and the world is %+v, was %+v", i, st.act, w, before)
		}
		before = w
	}
	return before
}

// small: one part, of two replicas.
func small() api.Setup { return api.Setup{Parts: 1, Replicas: 2, Few: 1, Wait: 9} }

// wide: three parts, of one replica each.
func wide() api.Setup { return api.Setup{Parts: 3, Replicas: 1, Few: 1, Wait: 10} }

// led: the first replica of each part leads.
func led(s api.Setup) []step {
	var steps []step
	for at := range s.Parts {
		steps = append(steps, done(of(api.Elect, at, 0), 0))
	}
	return steps
}

// then: what comes behind other steps.
func then(steps []step, more ...step) []step {
	return append(append([]step{}, steps...), more...)
}

// entriesOf a replica's log.
func entriesOf(w api.World, at, r int) []api.Entry {
	entries, _, _ := seg.Entries(w.Parts[at].Replicas[r].Log)
	return entries
}

// wantEntries of a replica's log.
func wantEntries(t *testing.T, w api.World, at, r int, want ...api.Entry) {
	t.Helper()
	if got := entriesOf(w, at, r); told(got) != told(want) {
		t.Errorf("replica %d of part %d has %+v, want %+v", r, at, got, want)
	}
}

// wrongParts: numbers that are no part's, of so many.
func wrongParts(parts int) []int {
	return []int{math.MinInt, -1, parts, parts + 1, api.MaxParts, math.MaxInt}
}

// TestExample: the document's example of the whole.
func TestExample(t *testing.T) {
	w := play(t, small(), []step{
		done(of(api.Elect, 0, 0), 0),
		done(initOf("ann"), 0),
		done(joins("cy"), 1),
		done(sends("ann", 0, "x"), 0),
		done(of(api.Sync, 0, 0), 0),
		done(polls("cy", 0, 20), 0),
		done(of(api.Fetch, 0, 1), 1),
		done(of(api.Sync, 0, 1), 0),
		done(polls("cy", 0, 20), 0),
		done(of(api.Fetch, 0, 1), 0),
		done(polls("cy", 0, 20), 1, "x"),
		done(crash(0, 0, 0), 0),
		refused(polls("cy", 0, 20), api.ErrLeader),
		done(of(api.Elect, 0, 1), 0),
		done(polls("cy", 0, 20), 1, "x"),
	})
	wantEntries(t, w, 0, 1, api.Entry{Epoch: 1, Pid: 1, Kind: api.Data, Text: "x"})
}

// TestBeginning: P7.1, the world at the beginning, for all that may be.
func TestBeginning(t *testing.T) {
	for parts := 1; parts <= api.MaxParts; parts++ {
		for replicas := 1; replicas <= api.MaxReplicas; replicas++ {
			for few := 1; few <= replicas; few++ {
				for _, wait := range []int{1, 2, api.MaxWait} {
					want := api.World{
						Coord: api.Coord{Next: 1, Wait: wait},
						Group: api.Group{Wait: wait},
					}
					p, _ := part.New(replicas, few)
					for range parts {
						want.Parts = append(want.Parts, p)
					}
					s := api.Setup{Parts: parts, Replicas: replicas, Few: few, Wait: wait}
					answers, w, e := Run(s, nil)
					if e != api.OK || len(answers) != 0 || told(w) != told(want) {
						t.Errorf("%+v: %v, %+v, %v, want %+v", s, answers, w, e, want)
					}
				}
			}
		}
	}
}

// TestSetupRefused: P7.1, what Run refuses, and in what order.
func TestSetupRefused(t *testing.T) {
	tooMany := make([]api.Act, api.MaxActs+1)
	refuses := func(s api.Setup, l []api.Act, want api.Errno) {
		t.Helper()
		answers, w, e := Run(s, l)
		if e != want || len(answers) != 0 || told(w) != told(api.World{}) {
			t.Errorf("%+v, %d acts: %v, %+v, %v, want %v", s, len(l), answers, w, e, want)
		}
	}
	for _, n := range []int{math.MinInt, -1, 0, api.MaxReplicas + 1, 1001, math.MaxInt} {
		for _, s := range []api.Setup{
			{Parts: n, Replicas: 2, Few: 1, Wait: 9},
			{Parts: 1, Replicas: n, Few: 1, Wait: 9},
			{Parts: 1, Replicas: 5, Few: n, Wait: 9},
			{Parts: n, Replicas: n, Few: n, Wait: n},
		} {
			refuses(s, nil, api.ErrRange)
			refuses(s, tooMany, api.ErrRange)
		}
	}
	for _, s := range []api.Setup{
		{Parts: api.MaxParts + 1, Replicas: 1, Few: 1, Wait: 9},
		{Parts: 4, Replicas: 2, Few: 3, Wait: 9},
		{Parts: 1, Replicas: 1, Few: 1, Wait: 0},
		{Parts: 1, Replicas: 1, Few: 1, Wait: -1},
		{Parts: 1, Replicas: 1, Few: 1, Wait: api.MaxWait + 1},
		{},
	} {
		refuses(s, []api.Act{initOf("ann")}, api.ErrRange)
		refuses(s, tooMany, api.ErrRange)
	}
	refuses(small(), tooMany, api.ErrSize)
	refuses(small(), make([]api.Act, 100*api.MaxActs), api.ErrSize)
	answers, _, e := Run(small(), tooMany[:api.MaxActs])
	if e != api.OK || len(answers) != api.MaxActs {
		t.Errorf("as many acts as may be: %d answers, %v", len(answers), e)
	}
}

// TestKinds: P7.1, acts of no kind, whatever else they say.
func TestKinds(t *testing.T) {
	steps := led(small())
	for _, kind := range []int{math.MinInt, -1, 0, api.Offsets + 1, 100, math.MaxInt} {
		steps = append(steps,
			refused(api.Act{Kind: kind}, api.ErrKind),
			refused(api.Act{Kind: kind, Name: "?", Part: 9, N: -1, M: -1, Text: strings.Repeat("x", 50), Lost: 7}, api.ErrKind))
	}
	play(t, small(), then(steps, done(initOf("ann"), 0)))
}

// mending: a call that was mended by one that came later is answered as it was all the same.
func mending() []step {
	return []step{
		refused(polls("cy", 0, 5), api.ErrNone),
		done(joins("cy"), 1),
		refused(polls("cy", 0, 5), api.ErrLeader),
		refused(sends("ann", 0, "x"), api.ErrNone),
		done(initOf("ann"), 0),
		leaving(sends("ann", 0, "x"), api.ErrLeader),
		done(of(api.Elect, 0, 0), 0),
		done(again("ann", 0), 0),
		refused(of(api.Elect, 0, 0), api.ErrTwice),
		refused(api.Act{}, api.ErrKind),
		done(of(api.Sync, 0, 0), 0),
		done(polls("cy", 0, 5), 1, "x"),
	}
}

// TestOneByOne: P7.1, each answer hangs on the acts ahead of it alone, and what is refused is told, and changes nothing.
func TestOneByOne(t *testing.T) {
	s := api.Setup{Parts: 1, Replicas: 1, Few: 1, Wait: 9}
	steps := mending()
	play(t, s, steps)
	all, _, _ := Run(s, actsOf(steps))
	for i := range steps {
		some, _, e := Run(s, actsOf(steps[:i]))
		if e != api.OK || told(some) != told(all[:i]) {
			t.Errorf("%d acts: %+v, %v, and of all acts: %+v", i, some, e, all)
		}
	}
}

// marked: two transactions that are ended, and one that is not, in three parts.
func marked() []step {
	return then(led(wide()),
		done(initOf("ann"), 0), done(initOf("bob"), 0), done(initOf("cid"), 0),
		done(begins("ann"), 0), done(begins("bob"), 0), done(begins("cid"), 0),
		done(sends("ann", 2, "a"), 0), done(sends("ann", 1, "b"), 0),
		done(sends("bob", 1, "c"), 1), done(sends("cid", 1, "d"), 2),
		refused(marks(0), api.ErrIdle),
		done(finishes("cid", 0), 0),
		done(finishes("ann", 1), 0))
}

// TestMark: P7.6, the n'th marker that is on its way comes in its part.
func TestMark(t *testing.T) {
	w := play(t, wide(), then(marked(),
		refused(marks(2), api.ErrIdle),
		refused(marks(-1), api.ErrIdle),
		refused(marks(math.MaxInt), api.ErrIdle),
		refused(marks(math.MinInt), api.ErrIdle),
		done(marks(1), 3),
		refused(marks(1), api.ErrIdle),
		done(marks(0), 4),
		done(marks(0), 1),
		refused(marks(0), api.ErrIdle)))
	wantEntries(t, w, 0, 0)
	wantEntries(t, w, 2, 0,
		api.Entry{Epoch: 1, Pid: 1, Kind: api.Data, Txn: true, Text: "a"},
		api.Entry{Epoch: 1, Pid: 1, Kind: api.Commit, Txn: true})
	wantEntries(t, w, 1, 0,
		api.Entry{Epoch: 1, Pid: 1, Kind: api.Data, Txn: true, Text: "b"},
		api.Entry{Epoch: 1, Pid: 2, Kind: api.Data, Txn: true, Text: "c"},
		api.Entry{Epoch: 1, Pid: 3, Kind: api.Data, Txn: true, Text: "d"},
		api.Entry{Epoch: 1, Pid: 3, Kind: api.Abort, Txn: true},
		api.Entry{Epoch: 1, Pid: 1, Kind: api.Commit, Txn: true})
	for i, want := range []api.Txn{
		{Name: "ann", Pid: 1, State: api.Empty, Done: api.Committed},
		{Name: "bob", Pid: 2, State: api.Ongoing, Parts: []int{1}},
		{Name: "cid", Pid: 3, State: api.Empty, Done: api.Aborted},
	} {
		if got := w.Coord.Txns[i]; told(got) != told(want) {
			t.Errorf("%+v, want %+v", got, want)
		}
	}
}

// TestMarkRefused: P7.6, a marker that its part refuses is on its way still.
func TestMarkRefused(t *testing.T) {
	s := api.Setup{Parts: 2, Replicas: 2, Few: 2, Wait: 9}
	play(t, s, then(led(s),
		done(initOf("ann"), 0), done(begins("ann"), 0),
		done(sends("ann", 0, "x"), 0), done(sends("ann", 1, "y"), 0), done(finishes("ann", 1), 0),
		done(crash(0, 0, 1000), 0), done(crash(1, 1, 1000), 0),
		refused(marks(0), api.ErrLeader),
		done(of(api.Elect, 0, 1), 0),
		refused(marks(0), api.ErrFew),
		done(of(api.Shrink, 0, 0), 0),
		refused(marks(0), api.ErrFew),
		done(of(api.Rise, 0, 0), 0),
		done(of(api.Fetch, 0, 0), 0), done(of(api.Fetch, 0, 0), 0), done(of(api.Expand, 0, 0), 0),
		// Nobody has fetched what was sent: with the first leader that is gone, and a marker comes first.
		done(marks(0), 0),
		refused(marks(0), api.ErrFew),
		done(of(api.Rise, 1, 1), 0),
		done(marks(0), 1),
		refused(marks(0), api.ErrIdle)))
}

// TestMarkAlone: P7.6, of an act that marks nothing is asked but N, and it cannot be lost.
func TestMarkAlone(t *testing.T) {
	for _, at := range wrongParts(3) {
		a := api.Act{Kind: api.Mark, Name: "?", Part: at, M: -7, Text: "text", Lost: at}
		play(t, wide(), then(marked(), done(a, 3), done(lost(api.NotCome, a), 1), done(lost(api.NotTold, a), 4)))
	}
}

// TestMarkAgain: P7.6, a marker that stands already is told its place, and comes no more.
func TestMarkAgain(t *testing.T) {
	s := api.Setup{Parts: 1, Replicas: 1, Few: 1, Wait: 9}
	w := play(t, s, then(led(s),
		done(initOf("ann"), 0), done(begins("ann"), 0), done(sends("ann", 0, "x"), 0), done(finishes("ann", 1), 0), done(marks(0), 1),
		done(crash(0, 0, 1000), 0), done(begins("ann"), 0), leaving(sends("ann", 0, "y"), api.ErrLeader),
		done(of(api.Rise, 0, 0), 0), done(of(api.Elect, 0, 0), 0),
		done(finishes("ann", 1), 0), done(marks(0), 1), refused(marks(0), api.ErrIdle)))
	wantEntries(t, w, 0, 0,
		api.Entry{Epoch: 1, Pid: 1, Kind: api.Data, Txn: true, Text: "x"},
		api.Entry{Epoch: 1, Pid: 1, Kind: api.Commit, Txn: true})
}

// TestTick: P7.6, time passes for the coordinator.
func TestTick(t *testing.T) {
	w := play(t, wide(), then(led(wide()),
		done(ticks(0), 0), done(ticks(3), 3),
		done(initOf("ann"), 0), done(begins("ann"), 0), done(sends("ann", 1, "x"), 0),
		done(ticks(9), 12),
		refused(marks(0), api.ErrIdle),
		refused(ticks(-1), api.ErrRange),
		refused(ticks(api.MaxTick+1), api.ErrRange),
		refused(ticks(math.MinInt), api.ErrRange),
		refused(ticks(math.MaxInt), api.ErrRange),
		refused(marks(0), api.ErrIdle),
		done(lost(api.NotCome, ticks(1)), 13),
		refused(finishes("ann", 1), api.ErrFence),
		done(marks(0), 1),
		done(ticks(api.MaxTick), 13+api.MaxTick)))
	wantEntries(t, w, 1, 0,
		api.Entry{Epoch: 1, Pid: 1, Kind: api.Data, Txn: true, Text: "x"},
		api.Entry{Epoch: 1, Pid: 1, Ver: 1, Kind: api.Abort, Txn: true})
	if w.Coord.Clock != 13+api.MaxTick || w.Group.Clock != w.Coord.Clock {
		t.Errorf("the clocks are %d and %d", w.Coord.Clock, w.Group.Clock)
	}
}

// TestTickGroup: P7.6, time passes for the group, and who is out leaves all parts that there are to the others.
func TestTickGroup(t *testing.T) {
	w := play(t, wide(), []step{
		done(joins("cy"), 1), done(joins("bob"), 2),
		done(ticks(9), 9), done(beats("cy", 2), 2),
		done(ticks(0), 9), done(ticks(1), 10),
		refused(beats("bob", 3), api.ErrNone),
		refused(beats("cy", 2), api.ErrFence),
	})
	want := api.Group{Clock: 10, Wait: 10, Gen: 3, Members: []api.Member{{Name: "cy", Heard: 9, Parts: []int{0, 1, 2}}}}
	if told(w.Group) != told(want) {
		t.Errorf("%+v, want %+v", w.Group, want)
	}
}

// pair: two parts, of two replicas each.
func pair() api.Setup { return api.Setup{Parts: 2, Replicas: 2, Few: 1, Wait: 9} }

// TestReplicas: P7.7, all acts of replicas, and what of them is told.
func TestReplicas(t *testing.T) {
	w := play(t, pair(), []step{
		refused(of(api.Fetch, 1, 1), api.ErrLeader),
		done(of(api.Elect, 1, 0), 0), refused(of(api.Elect, 1, 0), api.ErrTwice),
		done(initOf("ann"), 0), done(sends("ann", 1, "x"), 0), done(sends("ann", 1, "y"), 1),
		refused(of(api.Fetch, 1, 0), api.ErrLeader),
		done(of(api.Fetch, 1, 1), 1), done(of(api.Fetch, 1, 1), 1), done(of(api.Fetch, 1, 1), 0),
		done(of(api.Sync, 1, 1), 0),
		refused(crash(1, 0, -1), api.ErrRange),
		done(crash(1, 0, 11), 0), refused(crash(1, 0, 11), api.ErrDown), refused(of(api.Sync, 1, 0), api.ErrDown),
		done(of(api.Elect, 1, 1), 0), refused(of(api.Elect, 1, 0), api.ErrDown),
	})
	// Of the two entries, of 9 bytes each, 11 bytes are one that is whole.
	x := api.Entry{Epoch: 1, Pid: 1, Kind: api.Data, Text: "x"}
	wantEntries(t, w, 1, 0, x)
	wantEntries(t, w, 1, 1, x, api.Entry{Epoch: 1, Pid: 1, Seq: 1, Kind: api.Data, Text: "y"})
	if untouched, _ := part.New(2, 1); told(w.Parts[0]) != told(untouched) {
		t.Errorf("the other part is %+v", w.Parts[0])
	}
}

// TestKeepingUp: P7.7, who keeps up, who does not, and whose disk is lost.
func TestKeepingUp(t *testing.T) {
	w := play(t, pair(), []step{
		done(of(api.Elect, 0, 1), 0), done(initOf("ann"), 0), done(sends("ann", 0, "x"), 0), done(of(api.Sync, 0, 1), 0),
		refused(of(api.Wipe, 0, 0), api.ErrState), refused(of(api.Rise, 0, 0), api.ErrTwice),
		done(crash(0, 0, 0), 0),
		refused(of(api.Shrink, 0, 1), api.ErrLeader), done(of(api.Shrink, 0, 0), 0), refused(of(api.Shrink, 0, 0), api.ErrBehind),
		done(of(api.Wipe, 0, 0), 0), done(of(api.Rise, 0, 0), 0),
		refused(of(api.Elect, 0, 0), api.ErrBehind),
		refused(of(api.Expand, 0, 0), api.ErrBehind),
		done(of(api.Fetch, 0, 0), 1), done(of(api.Sync, 0, 0), 0), done(of(api.Fetch, 0, 0), 0),
		done(of(api.Expand, 0, 0), 0), refused(of(api.Expand, 0, 0), api.ErrTwice),
		done(crash(0, 1, 0), 0),
		done(of(api.Wipe, 0, 1), 0),
		done(crash(0, 0, 0), 0), refused(of(api.Wipe, 0, 0), api.ErrLeader),
	})
	wantEntries(t, w, 0, 0, api.Entry{Epoch: 1, Pid: 1, Kind: api.Data, Text: "x"})
	wantEntries(t, w, 0, 1)
}

// TestNoReplica: P7.7, of parts and of replicas that there are none of.
func TestNoReplica(t *testing.T) {
	kinds := []int{api.Fetch, api.Sync, api.Crash, api.Rise, api.Wipe, api.Elect, api.Shrink, api.Expand}
	steps := led(pair())
	for _, kind := range kinds {
		for _, at := range wrongParts(2) {
			steps = append(steps,
				refused(of(kind, at, 0), api.ErrNone),
				refused(api.Act{Kind: kind, Part: at, N: 9, M: -1}, api.ErrNone))
		}
		for _, r := range []int{math.MinInt, -1, 2, math.MaxInt} {
			steps = append(steps, refused(api.Act{Kind: kind, Part: 1, N: r, M: -1}, api.ErrNone))
		}
	}
	play(t, pair(), steps)
}

// TestMembers: P7.8, who comes, goes, is heard of, and stores how far it has read.
func TestMembers(t *testing.T) {
	w := play(t, wide(), []step{
		refused(beats("cy", 0), api.ErrNone), refused(leaves("cy"), api.ErrNone), refused(stores("cy", 0, 0, 0), api.ErrNone),
		done(joins("cy"), 1), refused(joins("cy"), api.ErrTwice),
		done(joins("bob"), 2),
		refused(beats("cy", 1), api.ErrFence), refused(beats("cy", 3), api.ErrFence),
		done(ticks(4), 4), done(beats("cy", 2), 2),
		done(stores("bob", 2, 2, 7), 2), done(stores("cy", 2, 1, api.MaxEntries), 2), done(stores("bob", 2, 2, 0), 2),
		refused(stores("cy", 1, 1, 5), api.ErrFence), refused(stores("cy", 2, 0, 5), api.ErrState),
		refused(stores("cy", 2, 1, -1), api.ErrRange), refused(stores("cy", 2, 1, api.MaxEntries+1), api.ErrRange),
		done(joins("dan"), 3), done(leaves("bob"), 4), refused(leaves("bob"), api.ErrNone),
		done(stores("dan", 4, 1, 6), 4),
	})
	want := api.Group{
		Clock: 4, Wait: 10, Gen: 4,
		Members: []api.Member{{Name: "cy", Heard: 4, Parts: []int{0, 2}}, {Name: "dan", Heard: 4, Parts: []int{1}}},
		Offsets: []api.Offset{{Part: 1, At: 6}, {Part: 2}},
	}
	if told(w.Group) != told(want) {
		t.Errorf("%+v, want %+v", w.Group, want)
	}
}

// TestMembersRefused: P7.8, texts that are no names, parts that there are none of, and more members than may be.
func TestMembersRefused(t *testing.T) {
	steps := []step{done(joins("cy"), 1)}
	for _, name := range []string{"", "Cy", "c y", "cy1", "abcdefghi", "\xff", strings.Repeat("c", 1000)} {
		steps = append(steps,
			refused(joins(name), api.ErrForm), refused(leaves(name), api.ErrForm), refused(beats(name, 1), api.ErrForm),
			refused(stores(name, 1, 0, 0), api.ErrForm), refused(stores(name, 1, 9, -1), api.ErrForm), refused(polls(name, 0, 1), api.ErrForm))
	}
	for _, at := range wrongParts(3) {
		steps = append(steps, refused(stores("cy", 1, at, 0), api.ErrState))
	}
	for i, name := range []string{"a", "b", "c", "d", "e"} {
		steps = append(steps, done(joins(name), 2+i))
	}
	play(t, wide(), append(steps,
		refused(joins("f"), api.ErrFull), refused(joins("cy"), api.ErrTwice),
		done(leaves("c"), 7), done(joins("abcdefgh"), 8)))
}

// TestMembersAlone: P7.8, what an act of a member does not say is not asked, and it cannot be lost.
func TestMembersAlone(t *testing.T) {
	noise := func(a api.Act) api.Act {
		a.Text, a.Lost = strings.Repeat("x", 50), 7
		return a
	}
	join, beat, leave := noise(joins("cy")), noise(beats("cy", 1)), noise(leaves("cy"))
	join.Part, join.N, join.M = -1, -1, -1
	beat.Part, beat.M = -1, -1
	leave.Part, leave.N, leave.M = -1, -1, -1
	for _, how := range []int{api.NotCome, api.NotTold, 7, -1} {
		play(t, small(), then(led(small()),
			done(lost(how, join), 1), done(lost(how, beat), 1), done(lost(how, noise(stores("cy", 1, 0, 0))), 1),
			done(lost(how, noise(polls("cy", 0, 1))), 0), done(lost(how, leave), 2)))
	}
}

// TestPoll: P7.8, a member reads on from where it has stored, as far as all that is read is kept and decided.
func TestPoll(t *testing.T) {
	steps := then(led(wide()), done(initOf("ann"), 0), done(initOf("bob"), 0), done(joins("cy"), 1))
	var texts []string
	for i := range 25 {
		text := strings.Repeat("x", i)
		texts = append(texts, text)
		steps = append(steps, done(sends("ann", 1, text), i))
	}
	w := play(t, wide(), then(steps,
		done(polls("cy", 1, 20), 0), done(of(api.Sync, 1, 0), 0), done(polls("cy", 0, 20), 0),
		done(polls("cy", 1, 1), 1, texts[:1]...), done(polls("cy", 1, 1), 1, texts[:1]...),
		done(polls("cy", 1, 20), 20, texts[:20]...),
		done(stores("cy", 1, 1, 20), 1), done(polls("cy", 1, 3), 23, texts[20:23]...), done(polls("cy", 1, 20), 25, texts[20:]...),
		done(stores("cy", 1, 1, 25), 1), done(polls("cy", 1, 20), 25),
		done(begins("bob"), 0), done(sends("bob", 1, "b"), 25), done(sends("ann", 1, "a"), 26), done(of(api.Sync, 1, 0), 0),
		done(polls("cy", 1, 20), 25),
		done(finishes("bob", 1), 0), done(marks(0), 27),
		done(polls("cy", 1, 20), 25), done(of(api.Sync, 1, 0), 0), done(polls("cy", 1, 20), 28, "b", "a"),
		done(stores("cy", 1, 1, 28), 1),
		done(begins("bob"), 0), done(sends("bob", 1, "c"), 28), done(sends("ann", 1, "d"), 29), done(finishes("bob", 0), 0), done(marks(0), 30),
		done(of(api.Sync, 1, 0), 0), done(polls("cy", 1, 20), 31, "d"),
		done(joins("abe"), 2), refused(polls("abe", 1, 1), api.ErrState), done(leaves("cy"), 3), done(polls("abe", 1, 1), 30, "d")))
	if want := []api.Offset{{Part: 1, At: 28}}; told(w.Group.Offsets) != told(want) {
		t.Errorf("it is read so far: %+v, want %+v", w.Group.Offsets, want)
	}
}

// TestPollRefused: P7.8, what is not read, and in what order that is told.
func TestPollRefused(t *testing.T) {
	steps := then(led(pair()), done(joins("cy"), 1), done(joins("bob"), 2))
	for _, at := range wrongParts(2) {
		steps = append(steps,
			refused(polls("cy", at, 1), api.ErrNone), refused(polls("cy", at, 0), api.ErrNone),
			refused(polls("dan", at, 1), api.ErrNone), refused(polls("?", at, 1), api.ErrNone))
	}
	for _, most := range []int{math.MinInt, -1, 0, api.MaxRead + 1, math.MaxInt} {
		steps = append(steps, refused(polls("cy", 1, most), api.ErrRange), refused(polls("cy", 0, most), api.ErrState))
	}
	play(t, pair(), then(steps,
		refused(polls("dan", 0, 1), api.ErrNone),
		refused(polls("cy", 0, 1), api.ErrState),
		refused(polls("bob", 1, 1), api.ErrState),
		done(polls("cy", 1, 1), 0),
		done(stores("cy", 2, 1, 1), 2), refused(polls("cy", 1, 1), api.ErrRange),
		done(crash(1, 0, 0), 0), refused(polls("cy", 1, 1), api.ErrLeader), refused(polls("cy", 1, 0), api.ErrLeader),
		refused(polls("cy", 0, 1), api.ErrState)))
}

// TestPollIsNoBeat: P7.8, who reads is not heard of for that.
func TestPollIsNoBeat(t *testing.T) {
	play(t, wide(), then(led(wide()), done(joins("cy"), 1), done(ticks(9), 9), done(polls("cy", 0, 1), 0), done(ticks(1), 10), refused(polls("cy", 0, 1), api.ErrNone)))
}
