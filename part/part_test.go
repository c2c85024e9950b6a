package part

import (
	"bytes"
	"fmt"
	"math"
	"slices"
	"strconv"
	"strings"
	"testing"

	"tailrace/api"
	"tailrace/seg"
	"tailrace/wire"
)

const top = api.MaxNumber

// logWith entries, so many of which are safe.
func logWith(safe int, entries ...api.Entry) api.Log {
	var l api.Log
	for i, e := range entries {
		b, refused := wire.Encode(e)
		if refused != api.OK {
			panic(fmt.Sprintf("%+v: %v", e, refused))
		}
		l.Bytes = append(l.Bytes, b...)
		if i < safe {
			l.Synced = len(l.Bytes)
		}
	}
	return l
}

// logOf nobody's Data with these Epochs, so many of which are safe; the Text of each says its Epoch and its place.
func logOf(safe int, epochs ...int) api.Log {
	var entries []api.Entry
	for i, epoch := range epochs {
		entries = append(entries, api.Entry{Kind: api.Data, Epoch: epoch, Text: strconv.Itoa(epoch) + "at" + strconv.Itoa(i)})
	}
	return logWith(safe, entries...)
}

// long: a log of so many of the shortest entries, of 8 bytes each, all of them safe.
func long(n int) api.Log {
	return api.Log{Bytes: bytes.Repeat([]byte{5, 1, 0, 0, 0, 0, 0, 1}, n), Synced: 8 * n}
}

// middle of a part's life: replica 1 leads, 0 and 3 keep up, 2 does not, 3 is down.
func middle() api.Part {
	return api.Part{
		Epoch:  4,
		Leader: 1,
		Isr:    []bool{true, true, false, true},
		Known:  []int{3, 5, 2, 3},
		Replicas: []api.Replica{
			{Up: true, Log: logOf(4, 1, 1, 2, 2, 2), High: 2},
			{Up: true, Log: logOf(5, 1, 1, 2, 3, 3, 4), High: 3},
			{Up: true, Log: logOf(2, 1, 1, 2), High: 1},
			{Up: false, Log: logOf(4, 1, 1, 2, 3), High: 3},
		},
		Few:  2,
		Base: 5,
	}
}

// with: that part, but for a change.
func with(change func(p *api.Part)) api.Part {
	p := middle()
	change(&p)
	return p
}

// leaderless: the leader is up, and leads no more.
func leaderless(p *api.Part) { p.Leader = -1 }

// told: a part as one text; lists without elements are alike in it.
func told(p api.Part) string { return fmt.Sprint(p) }

// answer of a call: a part, a number (0, if it tells none) and an error.
type answer func(api.Part) (api.Part, int, api.Errno)

// of a replica: a call that names it, and tells no number.
func of(call func(api.Part, int) (api.Part, api.Errno), r int) answer {
	return func(p api.Part) (api.Part, int, api.Errno) {
		q, refused := call(p, r)
		return q, 0, refused
	}
}

func crash(r, keep int) answer {
	return func(p api.Part) (api.Part, int, api.Errno) {
		q, refused := Crash(p, r, keep)
		return q, 0, refused
	}
}

func fetch(r int) answer {
	return func(p api.Part) (api.Part, int, api.Errno) { return Fetch(p, r) }
}

func put(x api.Entry) answer {
	return func(p api.Part) (api.Part, int, api.Errno) { return Put(p, x) }
}

// read as an answer: the part is that which it was, so that only the error tells.
func read(from, most int) answer {
	return func(p api.Part) (api.Part, int, api.Errno) {
		texts, n, refused := Read(p, from, most)
		if refused != api.OK && len(texts) != 0 {
			return p, n, refused
		}
		return api.Part{}, n, refused
	}
}

// doneRow: what a call does to a part, and what it tells.
type doneRow struct {
	name   string
	was    api.Part
	call   answer
	change func(p *api.Part)
	n      int
}

func runDone(t *testing.T, rows []doneRow) {
	t.Helper()
	for _, r := range rows {
		if refused := Check(r.was); refused != api.OK {
			t.Fatalf("%s: this part may not be: %v", r.name, r.was)
		}
		before := told(r.was)
		got, n, refused := r.call(r.was)
		if told(r.was) != before {
			t.Errorf("%s: what was handed in was changed: %v, was %s", r.name, r.was, before)
		}
		want := Copy(r.was)
		if r.change != nil {
			r.change(&want)
		}
		if refused != api.OK || n != r.n || told(got) != told(want) {
			t.Errorf("%s: %v, %d, %v, want %v, %d", r.name, got, n, refused, want, r.n)
		}
		if Check(got) != api.OK {
			t.Errorf("%s: what came out may not be: %v", r.name, got)
		}
	}
}

// refusedRow: what a call refuses.
type refusedRow struct {
	name string
	was  api.Part
	call answer
	want api.Errno
}

func runRefused(t *testing.T, rows []refusedRow) {
	t.Helper()
	for _, r := range rows {
		before := told(r.was)
		got, n, refused := r.call(r.was)
		if refused != r.want || n != 0 || told(got) != told(api.Part{}) {
			t.Errorf("%s: %v, %d, %v, want %v", r.name, got, n, refused, r.want)
		}
		if told(r.was) != before {
			t.Errorf("%s: what was handed in was changed: %v, was %s", r.name, r.was, before)
		}
	}
}

// TestNew: P4.1, all numbers of replicas, and of those that must keep up.
func TestNew(t *testing.T) {
	for replicas := 1; replicas <= api.MaxReplicas; replicas++ {
		for few := 1; few <= replicas; few++ {
			want := api.Part{Leader: -1, Few: few}
			for range replicas {
				want.Isr = append(want.Isr, true)
				want.Known = append(want.Known, 0)
				want.Replicas = append(want.Replicas, api.Replica{Up: true})
			}
			got, refused := New(replicas, few)
			if refused != api.OK || told(got) != told(want) || Check(got) != api.OK {
				t.Errorf("New(%d, %d) = %v, %v, want %v", replicas, few, got, refused, want)
			}
		}
	}
	for _, n := range [][2]int{
		{0, 0}, {0, 1}, {-1, 1}, {-1, -1}, {math.MinInt, 1}, {math.MaxInt, 1}, {math.MaxInt, math.MaxInt},
		{api.MaxReplicas + 1, 1}, {api.MaxReplicas + 1, api.MaxReplicas + 1},
		{1, 0}, {1, 2}, {3, 4}, {3, -1}, {3, math.MinInt}, {3, math.MaxInt}, {4, api.MaxReplicas},
		{api.MaxReplicas, api.MaxReplicas + 1},
	} {
		if got, refused := New(n[0], n[1]); refused != api.ErrRange || told(got) != told(api.Part{}) {
			t.Errorf("New(%d, %d) = %v, %v, want %v", n[0], n[1], got, refused, api.ErrRange)
		}
	}
}

// TestCheckMayBe: P4.2, parts that may be, at the edges of what may be.
func TestCheckMayBe(t *testing.T) {
	for name, p := range map[string]api.Part{
		"the middle":                        middle(),
		"nobody leads":                      with(leaderless),
		"few is 1":                          with(func(p *api.Part) { p.Few = 1 }),
		"few is all":                        with(func(p *api.Part) { p.Few = 4 }),
		"the first Epoch":                   with(func(p *api.Part) { p.Epoch = 0 }),
		"the last Epoch":                    with(func(p *api.Part) { p.Epoch = top }),
		"the first one leads":               with(func(p *api.Part) { p.Leader = 0 }),
		"the last one leads":                with(func(p *api.Part) { p.Leader, p.Replicas[3].Up = 3, true }),
		"only the leader keeps up":          with(func(p *api.Part) { p.Isr = []bool{false, true, false, false} }),
		"only one that is down keeps up":    with(func(p *api.Part) { p.Leader, p.Isr = -1, []bool{false, false, false, true} }),
		"all are down":                      with(func(p *api.Part) { leaderless(p); clearUp(p) }),
		"each High is 0":                    with(func(p *api.Part) { setHighs(p, 0, 0, 0, 0) }),
		"each High is all":                  with(func(p *api.Part) { setHighs(p, 5, 6, 3, 4) }),
		"each Known is 0":                   with(func(p *api.Part) { p.Known = []int{0, 0, 0, 0} }),
		"each Known is as great as may be":  with(func(p *api.Part) { p.Known = []int{400, 400, 400, 400} }),
		"Base is 0":                         with(func(p *api.Part) { p.Base = 0 }),
		"Base is as great as may be":        with(func(p *api.Part) { p.Base = api.MaxEntries }),
		"entries of an Epoch that will be":  with(func(p *api.Part) { p.Replicas[0].Log = logOf(0, 9, 7) }),
		"a log that is full, and all of it": with(func(p *api.Part) { p.Replicas[2] = api.Replica{Log: long(api.MaxEntries), High: api.MaxEntries} }),
		"one replica":                       {Leader: 0, Isr: []bool{true}, Known: []int{0}, Replicas: []api.Replica{{Up: true}}, Few: 1},
		"as many replicas as may be":        {Leader: 4, Isr: several(5, true), Known: several(5, 0), Replicas: several(5, api.Replica{Up: true}), Few: 5},
	} {
		if refused := Check(p); refused != api.OK {
			t.Errorf("%s: Check(%v) = %v, want OK", name, p, refused)
		}
	}
}

func clearUp(p *api.Part) {
	for r := range p.Replicas {
		p.Replicas[r].Up = false
	}
}

func setHighs(p *api.Part, highs ...int) {
	for r, high := range highs {
		p.Replicas[r].High = high
	}
}

// several: a list of so many that are the same.
func several[T any](n int, x T) []T { return slices.Repeat([]T{x}, n) }

// badParts: parts that may not be, each for one reason alone, where that can be.
func badParts() map[string]api.Part {
	bad := map[string]api.Part{
		"nothing":                      {},
		"no replicas, nobody leads":    {Leader: -1, Few: 1},
		"no replicas, but Isr":         {Leader: -1, Few: 1, Isr: []bool{true}, Known: []int{0}},
		"too many replicas":            {Leader: -1, Isr: several(6, true), Known: several(6, 0), Replicas: several(6, api.Replica{Up: true}), Few: 1},
		"a replica more":               with(func(p *api.Part) { p.Replicas = append(p.Replicas, api.Replica{}) }),
		"a replica fewer":              with(func(p *api.Part) { p.Replicas = p.Replicas[:3] }),
		"Isr of one more":              with(func(p *api.Part) { p.Isr = append(p.Isr, true) }),
		"Isr of one fewer":             with(func(p *api.Part) { p.Isr = p.Isr[:3] }),
		"no Isr":                       with(func(p *api.Part) { p.Isr = nil }),
		"Known of one more":            with(func(p *api.Part) { p.Known = append(p.Known, 0) }),
		"Known of one fewer":           with(func(p *api.Part) { p.Known = p.Known[:3] }),
		"no Known":                     with(func(p *api.Part) { p.Known = nil }),
		"Few is more than replicas":    with(func(p *api.Part) { p.Few = 5 }),
		"Few is 0":                     with(func(p *api.Part) { p.Few = 0 }),
		"the Epoch is too great":       with(func(p *api.Part) { p.Epoch = top + 1 }),
		"the Epoch is below 0":         with(func(p *api.Part) { p.Epoch = -1 }),
		"Leader is below -1":           with(func(p *api.Part) { p.Leader = -2 }),
		"Leader is how many there are": with(func(p *api.Part) { p.Leader = 4 }),
		"the leader is down":           with(func(p *api.Part) { p.Replicas[1].Up = false }),
		"the leader does not keep up":  with(func(p *api.Part) { p.Isr[1] = false }),
		"none keeps up":                with(func(p *api.Part) { p.Leader, p.Isr = -1, make([]bool, 4) }),
		"a log that is no entries":     with(func(p *api.Part) { p.Replicas[2].Log.Bytes = append(p.Replicas[2].Log.Bytes, 1) }),
		"a log of too many bytes":      with(func(p *api.Part) { p.Replicas[2].Log = long(api.MaxBytes/8 + 1) }),
		"a log of too many entries":    with(func(p *api.Part) { p.Replicas[3].Log = long(api.MaxEntries + 1) }),
		"Synced within an entry":       with(func(p *api.Part) { p.Replicas[0].Log.Synced-- }),
		"Synced is too great":          with(func(p *api.Part) { p.Replicas[1].Log.Synced = len(p.Replicas[1].Log.Bytes) + 1 }),
		"Synced is below 0":            with(func(p *api.Part) { p.Replicas[3].Log.Synced = -1 }),
		"Base is too great":            with(func(p *api.Part) { p.Base = api.MaxEntries + 1 }),
		"Base is below 0":              with(func(p *api.Part) { p.Base = -1 }),
	}
	for r, n := range []int{5, 6, 3, 4} {
		bad["a High too great, of "+strconv.Itoa(r)] = with(func(p *api.Part) { p.Replicas[r].High = n + 1 })
		bad["a High below 0, of "+strconv.Itoa(r)] = with(func(p *api.Part) { p.Replicas[r].High = -1 })
		bad["a Known too great, of "+strconv.Itoa(r)] = with(func(p *api.Part) { p.Known[r] = api.MaxEntries + 1 })
		bad["a Known below 0, of "+strconv.Itoa(r)] = with(func(p *api.Part) { p.Known[r] = -1 })
	}
	for _, n := range []int{math.MinInt, math.MaxInt} {
		s := " is " + strconv.Itoa(n)
		bad["Few"+s] = with(func(p *api.Part) { p.Few = n })
		bad["Epoch"+s] = with(func(p *api.Part) { p.Epoch = n })
		bad["Leader"+s] = with(func(p *api.Part) { p.Leader = n })
		bad["Base"+s] = with(func(p *api.Part) { p.Base = n })
		bad["Known"+s] = with(func(p *api.Part) { p.Known[3] = n })
		bad["High"+s] = with(func(p *api.Part) { p.Replicas[3].High = n })
		bad["Synced"+s] = with(func(p *api.Part) { p.Replicas[3].Log.Synced = n })
	}
	return bad
}

// TestCheckRefuses: P4.2, parts that may not be.
func TestCheckRefuses(t *testing.T) {
	for name, p := range badParts() {
		if refused := Check(p); refused != api.ErrState {
			t.Errorf("%s: Check(%v) = %v, want %v", name, p, refused, api.ErrState)
		}
	}
}

// callsOf a replica: all that name one, with what else they are told.
func callsOf(r int) map[string]answer {
	return map[string]answer{
		"Sync":                   of(Sync, r),
		"Fetch":                  fetch(r),
		"Crash":                  crash(r, 0),
		"Crash with less than 0": crash(r, -1),
		"Rise":                   of(Rise, r),
		"Wipe":                   of(Wipe, r),
		"Elect":                  of(Elect, r),
		"Shrink":                 of(Shrink, r),
		"Expand":                 of(Expand, r),
	}
}

// TestAllRefuse: P4.2, what Check refuses is refused by all, ahead of all else; then replicas that there are not.
func TestAllRefuse(t *testing.T) {
	none := []int{math.MinInt, -2, -1, 4, 5, math.MaxInt}
	var rows []refusedRow
	for name, p := range badParts() {
		for _, r := range append(none, 0, 1, 2, 3) {
			for call, do := range callsOf(r) {
				rows = append(rows, refusedRow{fmt.Sprint(name, ": ", call, " of ", r), p, do, api.ErrState})
			}
		}
		rows = append(rows,
			refusedRow{name + ": Put", p, put(api.Entry{Kind: api.Data}), api.ErrState},
			refusedRow{name + ": Put of no kind", p, put(api.Entry{}), api.ErrState},
			refusedRow{name + ": Read", p, read(0, 1), api.ErrState},
			refusedRow{name + ": Read from -1", p, read(-1, 0), api.ErrState})
	}
	for _, r := range none {
		for call, do := range callsOf(r) {
			rows = append(rows,
				refusedRow{fmt.Sprint(call, " of ", r), middle(), do, api.ErrNone},
				refusedRow{fmt.Sprint("nobody leads: ", call, " of ", r), with(leaderless), do, api.ErrNone})
		}
	}
	runRefused(t, rows)
}

// TestCopy: P4.2, the same part, be it one that may be or not.
func TestCopy(t *testing.T) {
	all := badParts()
	all["the middle"] = middle()
	all["nobody leads"] = with(leaderless)
	for name, p := range all {
		before := told(p)
		if got := Copy(p); told(got) != before || told(p) != before {
			t.Errorf("%s: Copy = %v, want %s", name, got, before)
		}
	}
}

// TestHighRises: P4.3, what the leader's High rises to, by each call after which it does.
func TestHighRises(t *testing.T) {
	runDone(t, []doneRow{
		{"by Sync, to the least Known", with(func(p *api.Part) { p.Known = []int{4, 4, 0, 5} }), of(Sync, 1),
			func(p *api.Part) { sync(p, 1, 6); p.Replicas[1].High = 4 }, 0},
		{"by Sync, to the leader's own", with(func(p *api.Part) { p.Known = []int{9, 4, 0, 9} }), of(Sync, 1),
			func(p *api.Part) { sync(p, 1, 6); p.Replicas[1].High = 6 }, 0},
		{"by Sync, held by one that is down", with(func(p *api.Part) { p.Known, p.Replicas[1].High = []int{6, 5, 6, 1}, 0 }), of(Sync, 1),
			func(p *api.Part) { sync(p, 1, 6); p.Replicas[1].High = 1 }, 0},
		{"by Sync, alone", with(func(p *api.Part) { p.Isr = []bool{false, true, false, false} }), of(Sync, 1),
			func(p *api.Part) { sync(p, 1, 6); p.Replicas[1].High = 6 }, 0},
		{"it never falls", with(func(p *api.Part) { p.Known = []int{0, 5, 0, 0} }), of(Sync, 1),
			func(p *api.Part) { sync(p, 1, 6) }, 0},
		{"by Fetch, to the least Known", with(func(p *api.Part) { p.Known[3] = 5; p.Replicas[0].Log = logOf(4, 1, 1, 2, 3, 3) }), fetch(0),
			func(p *api.Part) { p.Known[0] = 4; p.Replicas[0].Log = logOf(4, 1, 1, 2, 3, 3, 4); setHighs(p, 4, 4) }, 1},
		{"by Fetch of one that does not keep up, too", with(func(p *api.Part) { p.Known = []int{5, 5, 0, 4} }), fetch(2),
			func(p *api.Part) { p.Known[2] = 2; p.Replicas[2].Log = logOf(2, 1, 1, 2, 3); setHighs(p, 2, 4, 4) }, 1},
		{"by Fetch, to no more than there are", with(func(p *api.Part) { p.Known = []int{9, 400, 0, 400}; p.Isr[0] = false }), fetch(0),
			func(p *api.Part) { p.Known[0] = 3; p.Replicas[0].Log = logOf(3, 1, 1, 2, 3); setHighs(p, 4, 6) }, 1},
		{"by Elect of the only one that keeps up", with(func(p *api.Part) { p.Leader, p.Isr = -1, []bool{true, false, false, false} }), of(Elect, 0),
			func(p *api.Part) { p.Epoch, p.Leader, p.Known, p.Base = 5, 0, []int{4, 0, 0, 0}, 5; setHighs(p, 4) }, 0},
		{"by Shrink, to the least Known that is left", with(func(p *api.Part) { p.Known = []int{3, 5, 2, 4} }), of(Shrink, 0),
			func(p *api.Part) { p.Isr[0] = false; setHighs(p, 2, 4) }, 0},
		{"by Shrink, to no more than there are", with(func(p *api.Part) { p.Known = []int{3, 7, 2, 8} }), of(Shrink, 0),
			func(p *api.Part) { p.Isr[0] = false; setHighs(p, 2, 6) }, 0},
		{"not by Shrink, if another one holds it", middle(), of(Shrink, 0),
			func(p *api.Part) { p.Isr[0] = false }, 0},
	})
}

// sync: all of a replica's log is safe, and so many entries are known of it.
func sync(p *api.Part, r, known int) {
	p.Replicas[r].Log.Synced = len(p.Replicas[r].Log.Bytes)
	p.Known[r] = known
}

// standing: the leader's log has entries of producers.
func standing(p *api.Part) {
	p.Replicas[1].Log = logWith(1,
		api.Entry{Epoch: 1, Kind: api.Data, Pid: 7, Ver: 2, Text: "a"},
		api.Entry{Epoch: 1, Kind: api.Data},
		api.Entry{Epoch: 2, Kind: api.Data, Pid: 7, Ver: 2, Seq: 1, Txn: true, Text: "b"},
		api.Entry{Epoch: 2, Kind: api.Commit, Pid: 7, Ver: 2, Txn: true})
}

func seven(ver, seq int) api.Entry { return api.Entry{Kind: api.Data, Pid: 7, Ver: ver, Seq: seq} }

// comes: an entry comes behind the leader's.
func comes(x api.Entry) func(p *api.Part) {
	return func(p *api.Part) {
		l, refused := seg.Append(p.Replicas[p.Leader].Log, x)
		if refused != api.OK {
			panic(refused)
		}
		p.Replicas[p.Leader].Log = l
	}
}

// TestPut: P4.4, an entry comes in the leader's log, with the part's Epoch, and is not safe, nor known.
func TestPut(t *testing.T) {
	x := api.Entry{Kind: api.Data, Text: "new"}
	mine := api.Entry{Kind: api.Data, Epoch: 4, Text: "new"}
	var rows []doneRow
	for _, epoch := range []int{math.MinInt, -1, 0, 3, 4, 5, top, top + 1, math.MaxInt} {
		x.Epoch = epoch
		rows = append(rows, doneRow{fmt.Sprint("with the Epoch ", epoch), middle(), put(x), comes(mine), 6})
	}
	mine.Epoch = top
	rows = append(rows,
		doneRow{"in the last Epoch", with(func(p *api.Part) { p.Epoch = top }), put(x), comes(mine), 6},
		doneRow{"to an empty log", with(func(p *api.Part) { p.Replicas[1] = api.Replica{Up: true} }), put(x), comes(api.Entry{Kind: api.Data, Epoch: 4, Text: "new"}), 0},
		doneRow{"the next of a producer", with(standing), put(seven(2, 2)), comes(api.Entry{Kind: api.Data, Epoch: 4, Pid: 7, Ver: 2, Seq: 2}), 4},
		doneRow{"a higher version", with(standing), put(seven(3, 0)), comes(api.Entry{Kind: api.Data, Epoch: 4, Pid: 7, Ver: 3}), 4},
		doneRow{"a marker", with(standing), put(api.Entry{Kind: api.Abort, Pid: 7, Ver: 2, Txn: true}), comes(api.Entry{Kind: api.Abort, Epoch: 4, Pid: 7, Ver: 2, Txn: true}), 4},
		doneRow{"what stands in another's log alone", with(func(p *api.Part) { p.Replicas[0].Log = logWith(1, seven(2, 0)); p.Replicas[0].High = 1 }), put(seven(2, 0)), comes(api.Entry{Kind: api.Data, Epoch: 4, Pid: 7, Ver: 2}), 6},
		doneRow{"it stands already", with(standing), put(seven(2, 0)), nil, 0},
		doneRow{"it stands already, whatever its Text and Txn", with(standing), put(api.Entry{Kind: api.Data, Pid: 7, Ver: 2, Seq: 1, Text: "other"}), nil, 2},
		doneRow{"a marker stands already", with(standing), put(api.Entry{Kind: api.Commit, Pid: 7, Ver: 2, Txn: true}), nil, 3},
		doneRow{"it stands already, though there are too few", with(func(p *api.Part) { standing(p); p.Few = 4 }), put(seven(2, 1)), nil, 2},
		doneRow{"it stands already, in a full log", with(fullOfSeven), put(seven(0, 9)), nil, 9},
		doneRow{"just as many as must keep up", with(func(p *api.Part) { p.Few = 2 }), put(x), comes(api.Entry{Kind: api.Data, Epoch: 4, Text: "new"}), 6},
		doneRow{"the last one that has room", with(func(p *api.Part) { p.Replicas[1].Log = long(399) }), put(x), comes(api.Entry{Kind: api.Data, Epoch: 4, Text: "new"}), 399},
		doneRow{"it is not held against what is known", with(func(p *api.Part) { p.Known = []int{400, 400, 400, 400} }), put(x), comes(api.Entry{Kind: api.Data, Epoch: 4, Text: "new"}), 6})
	runDone(t, rows)
}

// fullOfSeven: the leader's log is full of entries of the producer 7.
func fullOfSeven(p *api.Part) {
	var entries []api.Entry
	for i := range api.MaxEntries {
		entries = append(entries, seven(0, i))
	}
	p.Replicas[1].Log = logWith(5, entries...)
}

// TestPutRefuses: P4.4, each error, and that those named ahead of it come first.
func TestPutRefuses(t *testing.T) {
	fit := api.Entry{Kind: api.Data}
	full := func(p *api.Part) { p.Replicas[1].Log = long(api.MaxEntries) }
	few := func(p *api.Part) { p.Few = 3 }
	runRefused(t, []refusedRow{
		{"nobody leads", with(leaderless), put(fit), api.ErrLeader},
		{"nobody leads, of no kind", with(leaderless), put(api.Entry{}), api.ErrLeader},
		{"nobody leads, too few", with(func(p *api.Part) { leaderless(p); few(p) }), put(fit), api.ErrLeader},
		{"of no kind", middle(), put(api.Entry{}), api.ErrKind},
		{"a Ver below 0", middle(), put(seven(-1, 0)), api.ErrRange},
		{"a Seq too great", middle(), put(seven(0, top+1)), api.ErrRange},
		{"a Text too long", middle(), put(api.Entry{Kind: api.Data, Text: strings.Repeat("x", api.MaxText+1)}), api.ErrSize},
		{"nobody's with a Seq", middle(), put(api.Entry{Kind: api.Data, Seq: 1}), api.ErrForm},
		{"nobody's Commit", middle(), put(api.Entry{Kind: api.Commit, Txn: true}), api.ErrForm},
		{"not in form, and fenced", with(standing), put(api.Entry{Kind: api.Commit, Pid: 7}), api.ErrForm},
		{"not in form, and too few", with(few), put(api.Entry{Kind: api.Abort, Pid: 7}), api.ErrForm},
		{"fenced", with(standing), put(seven(1, 2)), api.ErrFence},
		{"fenced, and too few", with(func(p *api.Part) { standing(p); few(p) }), put(seven(1, 0)), api.ErrFence},
		{"a gap", with(standing), put(seven(2, 3)), api.ErrGap},
		{"a gap of one that is new", with(standing), put(api.Entry{Kind: api.Data, Pid: 8, Seq: 1}), api.ErrGap},
		{"a gap, and too few", with(func(p *api.Part) { standing(p); few(p) }), put(seven(2, 3)), api.ErrGap},
		{"a gap, and full", with(fullOfSeven), put(seven(0, 401)), api.ErrGap},
		{"too few are up", with(few), put(fit), api.ErrFew},
		{"too few keep up", with(func(p *api.Part) { p.Isr[0] = false }), put(fit), api.ErrFew},
		{"too few, and full", with(func(p *api.Part) { full(p); few(p) }), put(fit), api.ErrFew},
		{"full", with(full), put(fit), api.ErrFull},
		{"full, the next of a producer", with(fullOfSeven), put(seven(0, 400)), api.ErrFull},
	})
}

// TestSync: P4.5, all of a replica's log is safe; of the leader's that is known.
func TestSync(t *testing.T) {
	runDone(t, []doneRow{
		{"the leader's", middle(), of(Sync, 1), func(p *api.Part) { sync(p, 1, 6) }, 0},
		{"the leader's, of which more was known", with(func(p *api.Part) { p.Known[1] = 9 }), of(Sync, 1), func(p *api.Part) { sync(p, 1, 6) }, 0},
		{"one's that keeps up", middle(), of(Sync, 0), func(p *api.Part) { sync(p, 0, 3) }, 0},
		{"one's that does not", middle(), of(Sync, 2), func(p *api.Part) { sync(p, 2, 2) }, 0},
		{"while nobody leads", with(leaderless), of(Sync, 1), func(p *api.Part) { sync(p, 1, 5) }, 0},
		{"one's that all else have", with(func(p *api.Part) { p.Known = []int{4, 4, 0, 4} }), of(Sync, 0), func(p *api.Part) { sync(p, 0, 4) }, 0},
		{"an empty one", with(func(p *api.Part) { p.Replicas[2] = api.Replica{Up: true} }), of(Sync, 2), nil, 0},
	})
	runRefused(t, []refusedRow{
		{"it is down", middle(), of(Sync, 3), api.ErrDown},
		{"it is down, and nobody leads", with(leaderless), of(Sync, 3), api.ErrDown},
	})
}

// TestFetch: P4.6, what stays, what is known of it, what comes, and the High of the one that asks.
func TestFetch(t *testing.T) {
	has := func(safe int, epochs ...int) func(p *api.Part) {
		return func(p *api.Part) { p.Replicas[0].Log = logOf(safe, epochs...); setHighs(p, 0) }
	}
	gets := func(known, high, safe int, epochs ...int) func(p *api.Part) {
		return func(p *api.Part) {
			p.Known[0] = known
			p.Replicas[0].Log = logOf(safe, epochs...)
			setHighs(p, high)
		}
	}
	alone := func(p *api.Part) {
		p.Replicas[0].Log = logWith(1, api.Entry{Kind: api.Data, Epoch: 1, Text: "other"}, seven(0, 0))
		p.Replicas[0].High = 2
	}
	runDone(t, []doneRow{
		{"nothing is there", with(has(0)), fetch(0), gets(0, 1, 0, 1), 1},
		{"what is there is not safe", with(has(0, 1, 1)), fetch(0), gets(0, 3, 0, 1, 1, 2), 1},
		{"some of it is safe", with(has(1, 1, 1)), fetch(0), gets(1, 3, 1, 1, 1, 2), 1},
		{"all of it is safe", with(has(2, 1, 1)), fetch(0), gets(2, 3, 2, 1, 1, 2), 1},
		{"the last one comes", with(has(5, 1, 1, 2, 3, 3)), fetch(0), gets(5, 3, 5, 1, 1, 2, 3, 3, 4), 1},
		{"all is there", with(has(6, 1, 1, 2, 3, 3, 4)), fetch(0), gets(6, 3, 6, 1, 1, 2, 3, 3, 4), 0},
		{"all is there, not safe", with(has(4, 1, 1, 2, 3, 3, 4)), fetch(0), gets(4, 3, 4, 1, 1, 2, 3, 3, 4), 0},
		{"more is there", with(has(8, 1, 1, 2, 3, 3, 4, 4, 4)), fetch(0), gets(6, 3, 6, 1, 1, 2, 3, 3, 4), 0},
		{"another one is there", middle(), fetch(0), gets(3, 3, 3, 1, 1, 2, 3), 1},
		{"another one is there, not safe", with(has(2, 1, 1, 2, 2, 2)), fetch(0), gets(2, 3, 2, 1, 1, 2, 3), 1},
		{"others of a later Epoch are there", with(has(3, 1, 1, 9, 9)), fetch(0), gets(2, 3, 2, 1, 1, 2), 1},
		{"the first one is another", with(has(6, 9, 1, 2, 3, 3, 4)), fetch(0), gets(0, 1, 0, 1), 1},
		{"behind another one the same ones are cut, too", with(has(6, 1, 2, 2, 3, 3, 4)), fetch(0), gets(1, 2, 1, 1, 1), 1},
		{"only Epochs are held against each other", with(alone), fetch(0),
			func(p *api.Part) {
				p.Known[0] = 1
				p.Replicas[0].Log = logWith(1, api.Entry{Kind: api.Data, Epoch: 1, Text: "other"}, api.Entry{Kind: api.Data, Epoch: 1, Text: "1at1"})
			}, 1},
		{"the leader has nothing", with(func(p *api.Part) { p.Replicas[1] = api.Replica{Up: true} }), fetch(0), gets(0, 0, 0), 0},
		{"its own High is greater", with(func(p *api.Part) { p.Replicas[1].High, p.Known[3] = 0, 0 }), fetch(0), gets(3, 2, 3, 1, 1, 2, 3), 1},
		{"its own High is greater than what is left", with(func(p *api.Part) { p.Replicas[0] = api.Replica{Up: true, Log: logOf(2, 1, 9, 9, 9), High: 4} }), fetch(0), gets(1, 2, 1, 1, 1), 1},
		{"the High that rose is told at once", with(func(p *api.Part) { has(5, 1, 1, 2, 3, 3)(p); p.Known[3] = 5 }), fetch(0),
			func(p *api.Part) { gets(5, 5, 5, 1, 1, 2, 3, 3, 4)(p); p.Replicas[1].High = 5 }, 1},
		{"it does not keep up", middle(), fetch(2),
			func(p *api.Part) { p.Known[2], p.Replicas[2].High, p.Replicas[2].Log = 2, 3, logOf(2, 1, 1, 2, 3) }, 1},
		{"the log is full then", with(func(p *api.Part) { p.Replicas[1].Log, p.Replicas[0].Log = long(400), long(399) }), fetch(0),
			func(p *api.Part) { p.Known[0], p.Replicas[0].High = 399, 3; p.Replicas[0].Log = halfSafe(400, 399) }, 1},
		{"full logs", with(func(p *api.Part) { p.Replicas[1].Log, p.Replicas[0].Log = long(400), long(400) }), fetch(0),
			func(p *api.Part) { p.Known[0], p.Replicas[0].High = 400, 3 }, 0},
	})
	runRefused(t, []refusedRow{
		{"nobody leads", with(leaderless), fetch(0), api.ErrLeader},
		{"nobody leads, and it is down", with(leaderless), fetch(3), api.ErrLeader},
		{"it leads", middle(), fetch(1), api.ErrLeader},
		{"it is down", middle(), fetch(3), api.ErrDown},
	})
}

// halfSafe: a log of the shortest entries, the first of which are safe.
func halfSafe(n, safe int) api.Log {
	l := long(n)
	l.Synced = 8 * safe
	return l
}
