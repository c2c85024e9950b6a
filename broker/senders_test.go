package broker

import (
	"math"
	"slices"
	"strings"
	"testing"

	"tailrace/api"
)

// one part, of one replica.
func one() api.Setup { return api.Setup{Parts: 1, Replicas: 1, Few: 1, Wait: 10} }

// wrongLost: these are no ways to be lost.
func wrongLost() []int { return []int{math.MinInt, -1, 3, 100, math.MaxInt} }

// data of a producer with the Pid 1 and the Ver 0, as its sender has it.
func data(seq int, txn bool, text string) api.Entry {
	return api.Entry{Pid: 1, Seq: seq, Kind: api.Data, Txn: txn, Text: text}
}

// put by the first leader.
func stored(e api.Entry) api.Entry {
	e.Epoch = 1
	return e
}

// wantSender: the one at a place.
func wantSender(t *testing.T, w api.World, at int, want api.Sender) {
	t.Helper()
	if len(w.Senders) <= at || told(w.Senders[at]) != told(want) {
		t.Errorf("the senders are %+v, want %+v at %d", w.Senders, want, at)
	}
}

// fresh sender: it has sent nothing.
func fresh(name string, pid, ver, parts int) api.Sender {
	return api.Sender{Name: name, Pid: pid, Ver: ver, Seqs: make([]int, parts), Last: make([]api.Entry, parts)}
}

// TestInit: P7.2, senders stand as they came, and have what the coordinator tells.
func TestInit(t *testing.T) {
	for parts := 1; parts <= api.MaxParts; parts++ {
		s := api.Setup{Parts: parts, Replicas: 1, Few: 1, Wait: 9}
		w := play(t, s, []step{
			done(initOf("zoe"), 0), done(initOf("ann"), 0), done(initOf("bob"), 0),
			done(initOf("ann"), 1), done(initOf("ann"), 2), done(lost(api.NotCome, initOf("bob")), 1), done(lost(7, initOf("bob")), 2),
		})
		if len(w.Senders) != 3 {
			t.Errorf("the senders are %+v", w.Senders)
		}
		wantSender(t, w, 0, fresh("zoe", 1, 0, parts))
		wantSender(t, w, 1, fresh("ann", 2, 2, parts))
		wantSender(t, w, 2, fresh("bob", 3, 2, parts))
	}
}

// TestInitAgain: P7.2, a sender that is there has sent nothing then, and is in no transaction.
func TestInitAgain(t *testing.T) {
	steps := then(led(wide()),
		done(initOf("ann"), 0), done(initOf("bob"), 0), done(begins("bob"), 0), done(sends("bob", 2, "b"), 0),
		done(sends("ann", 0, "x"), 0), done(begins("ann"), 0), done(sends("ann", 0, "y"), 1), done(sends("ann", 1, "z"), 0),
		done(initOf("ann"), 1))
	w := play(t, wide(), steps)
	wantSender(t, w, 0, fresh("ann", 1, 1, 3))
	bob := fresh("bob", 2, 0, 3)
	bob.In, bob.Seqs[2], bob.Last[2] = true, 1, api.Entry{Pid: 2, Kind: api.Data, Txn: true, Text: "b"}
	wantSender(t, w, 1, bob)
	w = play(t, wide(), then(steps,
		refused(again("ann", 0), api.ErrIdle), refused(finishes("ann", 1), api.ErrState),
		done(begins("ann"), 0),
		leaving(sends("ann", 0, "v"), api.ErrState),
		done(marks(0), 2), done(marks(0), 1),
		done(again("ann", 0), 3)))
	wantEntries(t, w, 0, 0, stored(data(0, false, "x")), stored(data(1, true, "y")),
		api.Entry{Epoch: 1, Pid: 1, Ver: 1, Kind: api.Abort, Txn: true},
		api.Entry{Epoch: 1, Pid: 1, Ver: 1, Kind: api.Data, Txn: true, Text: "v"})
}

// TestInitRefused: P7.2, what the coordinator refuses leaves the sender as it was.
func TestInitRefused(t *testing.T) {
	steps := then(led(one()), done(initOf("a"), 0), done(begins("a"), 0), done(sends("a", 0, "x"), 0), done(lost(api.Kept, finishes("a", 1)), 0), done(begins("a"), 0),
		refused(initOf("a"), api.ErrState))
	for _, name := range []string{"", "Ann", "an n", "ann1", "abcdefghi", "\xff", strings.Repeat("a", 1000)} {
		steps = append(steps, refused(initOf(name), api.ErrForm))
	}
	for _, name := range []string{"b", "c", "d", "e", "f", "g", "abcdefgh"} {
		steps = append(steps, done(initOf(name), 0))
	}
	w := play(t, one(), then(steps, refused(initOf("i"), api.ErrFull), done(initOf("b"), 1), refused(initOf("a"), api.ErrState), done(marks(0), 1), done(initOf("a"), 1)))
	if len(w.Senders) != api.MaxTxns {
		t.Errorf("there are %d senders", len(w.Senders))
	}
}

// TestBegin: P7.2, a sender is in a transaction; the coordinator does not hear of it yet.
func TestBegin(t *testing.T) {
	w := play(t, one(), []step{
		refused(begins("ann"), api.ErrNone), refused(begins(""), api.ErrNone), refused(begins("A B"), api.ErrNone),
		done(joins("ann"), 1), refused(begins("ann"), api.ErrNone),
		done(initOf("ann"), 0), refused(begins("bob"), api.ErrNone),
		done(lost(api.NotCome, begins("ann")), 0), refused(begins("ann"), api.ErrTwice), refused(lost(7, begins("ann")), api.ErrTwice),
		done(finishes("ann", 1), 0), done(lost(api.NotTold, begins("ann")), 0),
		done(finishes("ann", 1), 0), done(lost(-1, begins("ann")), 0),
	})
	want := fresh("ann", 1, 0, 1)
	want.In = true
	wantSender(t, w, 0, want)
	if got := w.Coord.Txns[0].State; got != api.Empty {
		t.Errorf("the coordinator has the state %d", got)
	}
}

// TestSend: P7.4, each part has numbers of its own, and what was sent last to it.
func TestSend(t *testing.T) {
	long := strings.Repeat("x", api.MaxText)
	w := play(t, wide(), then(led(wide()),
		done(initOf("ann"), 0),
		done(sends("ann", 0, "a"), 0), done(sends("ann", 0, ""), 1), done(sends("ann", 2, long), 0),
		done(begins("ann"), 0), done(sends("ann", 0, "c"), 2), done(sends("ann", 1, "d"), 0)))
	wantEntries(t, w, 0, 0, stored(data(0, false, "a")), stored(data(1, false, "")), stored(data(2, true, "c")))
	wantEntries(t, w, 1, 0, stored(data(0, true, "d")))
	wantEntries(t, w, 2, 0, stored(data(0, false, long)))
	wantSender(t, w, 0, api.Sender{
		Name: "ann", Pid: 1, In: true, Seqs: []int{3, 1, 1},
		Last: []api.Entry{data(2, true, "c"), data(0, true, "d"), data(0, false, long)},
	})
	if got := w.Coord.Txns[0]; got.State != api.Ongoing || !slices.Equal(got.Parts, []int{0, 1}) {
		t.Errorf("the coordinator has %+v", got)
	}
}

// TestAgain: P7.4, what was sent last is sent once more, and stands but once.
func TestAgain(t *testing.T) {
	w := play(t, wide(), then(led(wide()),
		done(initOf("ann"), 0), done(initOf("bob"), 0),
		refused(again("ann", 1), api.ErrIdle),
		done(sends("ann", 1, "a"), 0), done(sends("bob", 1, "b"), 1), done(sends("ann", 1, "c"), 2),
		refused(again("ann", 0), api.ErrIdle), refused(again("bob", 2), api.ErrIdle),
		done(again("bob", 1), 1), done(again("ann", 1), 2), done(again("ann", 1), 2),
		// In a transaction, too, it stays what it was.
		done(begins("ann"), 0), done(again("ann", 1), 2)))
	wantEntries(t, w, 1, 0, stored(data(0, false, "a")), api.Entry{Epoch: 1, Pid: 2, Kind: api.Data, Text: "b"}, stored(data(1, false, "c")))
	wantSender(t, w, 0, api.Sender{Name: "ann", Pid: 1, In: true, Seqs: []int{0, 2, 0}, Last: []api.Entry{{}, data(1, false, "c"), {}}})
	if got := w.Coord.Txns[0].State; got != api.Empty {
		t.Errorf("the coordinator has the state %d", got)
	}
}

// TestSendRefused: P7.4, what a sender refuses itself, in what order: nothing is done.
func TestSendRefused(t *testing.T) {
	long := strings.Repeat("x", api.MaxText+1)
	steps := then(led(one()), done(joins("cy"), 1), done(initOf("ann"), 0))
	for _, how := range []int{api.Kept, api.NotCome, api.NotTold, 3, -1} {
		for _, at := range wrongParts(1) {
			steps = append(steps,
				refused(lost(how, sends("ann", at, long)), api.ErrNone), refused(lost(how, sends("ann", at, "x")), api.ErrNone),
				refused(lost(how, sends("bob", at, "x")), api.ErrNone), refused(lost(how, again("ann", at)), api.ErrNone))
		}
		steps = append(steps,
			refused(lost(how, sends("bob", 0, long)), api.ErrNone), refused(lost(how, sends("cy", 0, "x")), api.ErrNone),
			refused(lost(how, sends("", 0, "x")), api.ErrNone), refused(lost(how, again("?", 0)), api.ErrNone))
	}
	for _, how := range wrongLost() {
		steps = append(steps,
			refused(lost(how, sends("ann", 0, "x")), api.ErrKind), refused(lost(how, sends("ann", 0, long)), api.ErrKind),
			refused(lost(how, again("ann", 0)), api.ErrKind))
	}
	// The sender sees these ahead of any call that could be lost.
	for _, how := range []int{api.Kept, api.NotCome, api.NotTold} {
		steps = append(steps, refused(lost(how, sends("ann", 0, long)), api.ErrSize), refused(lost(how, again("ann", 0)), api.ErrIdle))
	}
	w := play(t, one(), then(steps, done(begins("ann"), 0), refused(sends("ann", 0, long), api.ErrSize), refused(again("ann", 0), api.ErrIdle)))
	want := fresh("ann", 1, 0, 1)
	want.In = true
	wantSender(t, w, 0, want)
	// Of what is sent again no text is asked.
	a := again("ann", 0)
	a.Text = long
	play(t, one(), then(led(one()), done(initOf("ann"), 0), done(sends("ann", 0, "x"), 0), done(a, 0)))
}

// TestRefusedOnTheWay: P7.4, what the sender did stays, and so does a part that was added.
func TestRefusedOnTheWay(t *testing.T) {
	w := play(t, wide(), []step{
		done(initOf("ann"), 0),
		leaving(sends("ann", 0, "x"), api.ErrLeader), refused(again("ann", 0), api.ErrLeader),
		done(begins("ann"), 0),
		leaving(sends("ann", 1, "y"), api.ErrLeader), refused(again("ann", 1), api.ErrLeader),
	})
	wantSender(t, w, 0, api.Sender{Name: "ann", Pid: 1, In: true, Seqs: []int{1, 1, 0}, Last: []api.Entry{data(0, false, "x"), data(0, true, "y"), {}}})
	if got := w.Coord.Txns[0]; got.State != api.Ongoing || !slices.Equal(got.Parts, []int{1}) {
		t.Errorf("the coordinator has %+v", got)
	}
	// What was refused is sent again when it may come; behind what did not come nothing comes.
	play(t, one(), []step{
		done(initOf("ann"), 0),
		leaving(sends("ann", 0, "x"), api.ErrLeader), done(of(api.Elect, 0, 0), 0), done(again("ann", 0), 0), done(sends("ann", 0, "y"), 1),
		done(crash(0, 0, 0), 0), done(of(api.Rise, 0, 0), 0), done(of(api.Elect, 0, 0), 0),
		refused(again("ann", 0), api.ErrGap), leaving(sends("ann", 0, "z"), api.ErrGap),
		done(initOf("ann"), 1), done(sends("ann", 0, "z"), 0),
	})
}

// TestRefusedByCoord: P7.4, what the coordinator refuses is not put.
func TestRefusedByCoord(t *testing.T) {
	w := play(t, one(), then(led(one()),
		done(initOf("ann"), 0), done(begins("ann"), 0), done(sends("ann", 0, "x"), 0),
		done(ticks(10), 10),
		refused(again("ann", 0), api.ErrFence), leaving(sends("ann", 0, "y"), api.ErrFence),
		done(marks(0), 1),
		refused(again("ann", 0), api.ErrFence),
		done(initOf("ann"), 2), done(begins("ann"), 0), done(sends("ann", 0, "z"), 2),
		leaving(lost(api.NotTold, finishes("ann", 1)), api.ErrLost),
		leaving(sends("ann", 0, "v"), api.ErrState), refused(again("ann", 0), api.ErrState),
		done(marks(0), 3), done(again("ann", 0), 4)))
	z := api.Entry{Epoch: 1, Pid: 1, Ver: 2, Kind: api.Data, Txn: true, Text: "z"}
	v := z
	v.Seq, v.Text = 1, "v"
	wantEntries(t, w, 0, 0, stored(data(0, true, "x")),
		api.Entry{Epoch: 1, Pid: 1, Ver: 1, Kind: api.Abort, Txn: true}, z,
		api.Entry{Epoch: 1, Pid: 1, Ver: 2, Kind: api.Commit, Txn: true}, v)
}

// TestSendLost: P7.3, what did not come, and what came and was not told, comes once when it is sent again.
func TestSendLost(t *testing.T) {
	steps := then(led(wide()), done(initOf("ann"), 0), done(begins("ann"), 0))
	w := play(t, wide(), then(steps,
		leaving(lost(api.NotCome, sends("ann", 0, "x")), api.ErrLost),
		refused(lost(api.NotCome, again("ann", 0)), api.ErrLost)))
	wantEntries(t, w, 0, 0)
	if got := w.Coord.Txns[0].State; got != api.Empty {
		t.Errorf("what did not come: the coordinator has the state %d", got)
	}
	sent := api.Sender{Name: "ann", Pid: 1, In: true, Seqs: []int{1, 0, 0}, Last: []api.Entry{data(0, true, "x"), {}, {}}}
	wantSender(t, w, 0, sent)
	w = play(t, wide(), then(steps,
		leaving(lost(api.NotTold, sends("ann", 0, "x")), api.ErrLost),
		refused(lost(api.NotTold, again("ann", 0)), api.ErrLost), done(again("ann", 0), 0)))
	wantEntries(t, w, 0, 0, stored(data(0, true, "x")))
	wantSender(t, w, 0, sent)
	if got := w.Coord.Txns[0]; got.State != api.Ongoing || !slices.Equal(got.Parts, []int{0}) {
		t.Errorf("what was not told: the coordinator has %+v", got)
	}
	w = play(t, wide(), then(steps,
		leaving(lost(api.NotCome, sends("ann", 1, "x")), api.ErrLost),
		leaving(lost(api.NotTold, again("ann", 1)), api.ErrLost), done(again("ann", 1), 0),
		leaving(lost(api.NotCome, sends("ann", 1, "y")), api.ErrLost), leaving(sends("ann", 1, "z"), api.ErrGap)))
	wantEntries(t, w, 1, 0, stored(data(0, true, "x")))
}

// TestLostAndRefused: P7.3, what is refused and not told is lost as well.
func TestLostAndRefused(t *testing.T) {
	w := play(t, one(), []step{
		done(initOf("ann"), 0),
		leaving(lost(api.NotTold, sends("ann", 0, "x")), api.ErrLost), refused(lost(api.NotTold, again("ann", 0)), api.ErrLost),
		done(begins("ann"), 0), leaving(lost(api.NotTold, sends("ann", 0, "y")), api.ErrLost),
		done(ticks(10), 10), refused(lost(api.NotTold, finishes("ann", 1)), api.ErrLost), refused(finishes("ann", 1), api.ErrFence),
	})
	wantSender(t, w, 0, api.Sender{Name: "ann", Pid: 1, In: true, Seqs: []int{2}, Last: []api.Entry{data(1, true, "y")}})
}

// TestFinishLost: P7.3 and P7.5, a sender that was not told is in its transaction still.
func TestFinishLost(t *testing.T) {
	w := play(t, one(), then(led(one()),
		done(initOf("ann"), 0), done(begins("ann"), 0), done(sends("ann", 0, "x"), 0),
		refused(lost(api.NotCome, finishes("ann", 1)), api.ErrLost), refused(marks(0), api.ErrIdle),
		leaving(lost(api.NotTold, finishes("ann", 0)), api.ErrLost), refused(lost(api.NotTold, finishes("ann", 0)), api.ErrLost),
		refused(begins("ann"), api.ErrTwice), refused(finishes("ann", 1), api.ErrState)))
	wantSender(t, w, 0, api.Sender{Name: "ann", Pid: 1, In: true, Seqs: []int{1}, Last: []api.Entry{data(0, true, "x")}})
	play(t, one(), then(led(one()),
		done(initOf("ann"), 0), done(begins("ann"), 0), done(sends("ann", 0, "x"), 0),
		leaving(lost(api.NotTold, finishes("ann", 0)), api.ErrLost), done(marks(0), 1),
		done(finishes("ann", 0), 0), refused(finishes("ann", 0), api.ErrState),
		done(begins("ann"), 0), done(sends("ann", 0, "y"), 2)))
}

// TestFinish: P7.5, a transaction is over, and what was sent last of it is forgotten.
func TestFinish(t *testing.T) {
	for n, want := range []int{api.Aborted, api.Committed} {
		w := play(t, wide(), then(led(wide()),
			done(initOf("ann"), 0), done(sends("ann", 1, "a"), 0), done(sends("ann", 2, "b"), 0),
			done(begins("ann"), 0), done(sends("ann", 0, "c"), 0), done(sends("ann", 2, "d"), 1),
			done(finishes("ann", n), 0),
			refused(again("ann", 0), api.ErrIdle), refused(again("ann", 2), api.ErrIdle), done(again("ann", 1), 0)))
		wantSender(t, w, 0, api.Sender{Name: "ann", Pid: 1, Seqs: []int{1, 1, 2}, Last: []api.Entry{{}, data(0, false, "a"), {}}})
		if got := w.Coord.Txns[0]; got.State != want || !slices.Equal(got.Parts, []int{0, 2}) {
			t.Errorf("N is %d: the coordinator has %+v", n, got)
		}
	}
	// Of another sender nothing is forgotten, and what was sent without a transaction has the next number.
	play(t, one(), then(led(one()),
		done(initOf("ann"), 0), done(initOf("bob"), 0), done(begins("ann"), 0), done(begins("bob"), 0),
		done(sends("ann", 0, "a"), 0), done(sends("bob", 0, "b"), 1), done(finishes("ann", 1), 0),
		done(again("bob", 0), 1), done(sends("ann", 0, "c"), 2), done(again("ann", 0), 2)))
}

// TestFinishOfNothing: P7.5, a transaction in which nothing was sent ends as the coordinator lets it.
func TestFinishOfNothing(t *testing.T) {
	w := play(t, one(), []step{
		done(initOf("ann"), 0), done(begins("ann"), 0), done(finishes("ann", 1), 0), refused(marks(0), api.ErrIdle),
		done(begins("ann"), 0), refused(finishes("ann", 0), api.ErrState), done(finishes("ann", 1), 0),
	})
	wantSender(t, w, 0, fresh("ann", 1, 0, 1))
}

// TestFinishRefused: P7.5, what is refused, and in what order: the sender stays as it is.
func TestFinishRefused(t *testing.T) {
	steps := then(led(one()), done(joins("cy"), 1), done(initOf("ann"), 0))
	wrongN := []int{math.MinInt, -1, 2, math.MaxInt}
	for _, how := range []int{api.Kept, api.NotCome, api.NotTold, 3, -1} {
		for _, n := range append(wrongN, 0, 1) {
			steps = append(steps, refused(lost(how, finishes("bob", n)), api.ErrNone), refused(lost(how, finishes("cy", n)), api.ErrNone), refused(lost(how, finishes("", n)), api.ErrNone))
		}
		for _, n := range wrongN {
			steps = append(steps, refused(lost(how, finishes("ann", n)), api.ErrKind))
		}
	}
	for n := range 2 {
		for _, how := range wrongLost() {
			steps = append(steps, refused(lost(how, finishes("ann", n)), api.ErrKind))
		}
		for _, how := range []int{api.Kept, api.NotCome, api.NotTold} {
			steps = append(steps, refused(lost(how, finishes("ann", n)), api.ErrState))
		}
	}
	steps = append(steps, done(begins("ann"), 0), done(sends("ann", 0, "x"), 0))
	for _, n := range wrongN {
		steps = append(steps, refused(finishes("ann", n), api.ErrKind), refused(lost(3, finishes("ann", 1)), api.ErrKind))
	}
	w := play(t, one(), append(steps, done(ticks(10), 10), refused(finishes("ann", 1), api.ErrFence), refused(finishes("ann", 0), api.ErrFence)))
	wantSender(t, w, 0, api.Sender{Name: "ann", Pid: 1, In: true, Seqs: []int{1}, Last: []api.Entry{data(0, true, "x")}})
}
