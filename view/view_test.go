package view

import (
	"math"
	"slices"
	"strconv"
	"testing"

	"tailrace/api"
)

const top = api.MaxNumber

// data of a producer that is of no transaction.
func data(pid, ver, seq int) api.Entry {
	return api.Entry{Kind: api.Data, Pid: pid, Ver: ver, Seq: seq}
}

// inTxn: data of a producer's transaction.
func inTxn(pid, ver, seq int) api.Entry {
	return api.Entry{Kind: api.Data, Pid: pid, Ver: ver, Seq: seq, Txn: true}
}

func commit(pid, ver int) api.Entry {
	return api.Entry{Kind: api.Commit, Pid: pid, Ver: ver, Txn: true}
}

func abort(pid, ver int) api.Entry {
	return api.Entry{Kind: api.Abort, Pid: pid, Ver: ver, Txn: true}
}

// named: entries whose Texts say where they stand.
func named(entries ...api.Entry) []api.Entry {
	for i := range entries {
		entries[i].Text = strconv.Itoa(i)
	}
	return entries
}

// checkRow: an entry behind others, and what is wanted of Check.
type checkRow struct {
	name    string
	es      []api.Entry
	x       api.Entry
	place   int
	refused api.Errno
}

func runChecks(t *testing.T, rows []checkRow) {
	t.Helper()
	for _, r := range rows {
		place, refused := Check(r.es, r.x)
		if place != r.place || refused != r.refused {
			t.Errorf("%s: Check(%v, %v) = %d, %v, want %d, %v", r.name, r.es, r.x, place, refused, r.place, r.refused)
		}
	}
}

// TestVersion: P3.1, the version is the Ver of the last entry, of whatever kind.
func TestVersion(t *testing.T) {
	runChecks(t, []checkRow{
		{"of Data", []api.Entry{data(1, 3, 0)}, data(1, 2, 1), 0, api.ErrFence},
		{"of a Commit", []api.Entry{data(1, 3, 0), commit(1, 4)}, data(1, 3, 1), 0, api.ErrFence},
		{"of an Abort alone", []api.Entry{abort(1, 4)}, data(1, 3, 0), 0, api.ErrFence},
		{"of the last one, not of the greatest one", []api.Entry{data(1, 5, 0), data(1, 2, 0)}, data(1, 2, 1), -1, api.OK},
		{"of the last one, not of the first one", []api.Entry{data(1, 2, 0), data(1, 5, 0)}, data(1, 4, 1), 0, api.ErrFence},
		{"of its own ones alone", []api.Entry{data(1, 2, 0), data(2, 9, 0), data(0, 0, 0)}, data(1, 2, 1), -1, api.OK},
		{"the greatest one", []api.Entry{data(top, top, 0)}, data(top, top-1, 1), 0, api.ErrFence},
	})
}

// TestNumber: P3.1, the number is the Seq of the last Data since the version came.
func TestNumber(t *testing.T) {
	runChecks(t, []checkRow{
		{"the last Data", []api.Entry{data(1, 0, 0), data(1, 0, 7)}, data(1, 0, 8), -1, api.OK},
		{"not the greatest Seq", []api.Entry{data(1, 0, 7), data(1, 0, 2)}, data(1, 0, 3), -1, api.OK},
		{"not the greatest Seq, so that it stands still", []api.Entry{data(1, 0, 7), data(1, 0, 2)}, data(1, 0, 8), 0, api.ErrGap},
		{"a marker has none", []api.Entry{inTxn(1, 0, 4), commit(1, 0)}, data(1, 0, 5), -1, api.OK},
		{"of its own ones alone", []api.Entry{data(1, 0, 4), data(2, 0, 9), data(0, 0, 6)}, data(1, 0, 5), -1, api.OK},
		{"a version that a marker began", []api.Entry{data(1, 0, 4), abort(1, 1)}, data(1, 1, 0), -1, api.OK},
		{"a version that a marker began, and not its number", []api.Entry{data(1, 0, 4), abort(1, 1)}, data(1, 1, 5), 0, api.ErrGap},
		{"only a marker", []api.Entry{commit(1, 1)}, data(1, 1, 0), -1, api.OK},
		{"only a marker, and a Seq of 1", []api.Entry{commit(1, 1)}, data(1, 1, 1), 0, api.ErrGap},
		{"a version that comes again", []api.Entry{data(1, 1, 4), data(1, 0, 2), abort(1, 1)}, data(1, 1, 0), -1, api.OK},
		{"a version that comes again has its number no more", []api.Entry{data(1, 1, 4), data(1, 0, 2), abort(1, 1)}, data(1, 1, 5), 0, api.ErrGap},
		{"a version that fell", []api.Entry{data(1, 1, 4), abort(1, 0)}, data(1, 0, 0), -1, api.OK},
		{"others between do not end a version", []api.Entry{data(1, 1, 4), data(2, 0, 2), abort(1, 1)}, data(1, 1, 5), -1, api.OK},
		{"the greatest Seq that may follow", []api.Entry{data(1, 0, top-1)}, data(1, 0, top), -1, api.OK},
		{"none follows the greatest Seq", []api.Entry{data(1, 0, top)}, data(1, 0, 0), 0, api.ErrGap},
		{"the greatest Seq stands", []api.Entry{data(1, 0, top)}, data(1, 0, top), 0, api.OK},
	})
}

// TestOpen: P3.2, which transactions are open, and where they begin.
func TestOpen(t *testing.T) {
	for _, r := range []struct {
		name string
		es   []api.Entry
		want int
	}{
		{"nothing", nil, 0},
		{"Data without Txn", []api.Entry{data(1, 0, 0)}, 1},
		{"Data with Txn", []api.Entry{data(1, 0, 0), inTxn(1, 0, 1)}, 1},
		{"the first one begins it", []api.Entry{data(0, 0, 0), inTxn(1, 0, 0), inTxn(1, 0, 1), data(1, 0, 2)}, 1},
		{"a Commit ends it", []api.Entry{inTxn(1, 0, 0), inTxn(1, 0, 1), commit(1, 0)}, 3},
		{"an Abort ends it", []api.Entry{inTxn(1, 0, 0), inTxn(1, 0, 1), abort(1, 0)}, 3},
		{"one with another Ver ends it", []api.Entry{inTxn(1, 0, 0), abort(1, 1)}, 2},
		{"one with a lower Ver ends it", []api.Entry{inTxn(1, 1, 0), commit(1, 0)}, 2},
		{"a higher version does not end it", []api.Entry{data(1, 0, 0), inTxn(1, 0, 1), data(1, 1, 0), inTxn(1, 1, 1)}, 1},
		{"one without Txn ends it", []api.Entry{inTxn(1, 0, 0), {Kind: api.Commit, Pid: 1}}, 2},
		{"another one's Commit does not", []api.Entry{inTxn(1, 0, 0), commit(2, 0)}, 0},
		{"nobody's Data does not", []api.Entry{inTxn(1, 0, 0), data(0, 0, 0)}, 0},
		{"a marker alone", []api.Entry{commit(1, 0), abort(2, 0)}, 2},
		{"the second one", []api.Entry{inTxn(1, 0, 0), commit(1, 0), data(1, 0, 1), inTxn(1, 0, 2), inTxn(1, 0, 3)}, 3},
		{"Data without Txn behind the marker", []api.Entry{inTxn(1, 0, 0), abort(1, 0), data(1, 0, 1)}, 3},
		{"nobody's Data with Txn opens none", []api.Entry{inTxn(0, 0, 0)}, 1},
		{"nobody's Data with Txn, a Ver and a Seq opens none", []api.Entry{data(0, 0, 0), inTxn(0, top, top), commit(1, 0)}, 3},
		{"nobody's behind a Commit of nobody", []api.Entry{inTxn(0, 0, 0), commit(0, 0), inTxn(0, 0, 0)}, 3},
		{"nobody's ahead of a producer's", []api.Entry{inTxn(0, 0, 0), inTxn(1, 0, 0), inTxn(0, 0, 0)}, 1},
		{"nobody's Commit does not end a producer's", []api.Entry{inTxn(1, 0, 0), commit(0, 0), abort(0, 0)}, 0},
	} {
		if got, refused := Stable(r.es, len(r.es)); got != r.want || refused != api.OK {
			t.Errorf("%s: Stable(%v) = %d, %v, want %d", r.name, r.es, got, refused, r.want)
		}
	}
}

// TestCheckNew: P3.3, one of nobody, and one of a producer of which there are no entries.
func TestCheckNew(t *testing.T) {
	lists := [][]api.Entry{
		nil,
		{},
		{data(0, 0, 0), data(0, 0, 0)},
		{data(2, 9, 5), inTxn(2, 9, 6), commit(2, 9)},
		{data(2, 9, 5), inTxn(2, 9, 6)},
	}
	var rows []checkRow
	for _, es := range lists {
		rows = append(rows,
			checkRow{"nobody", es, data(0, 0, 0), -1, api.OK},
			checkRow{"nobody with a Text", es, api.Entry{Kind: api.Data, Epoch: 4, Text: "x"}, -1, api.OK},
			checkRow{"nobody with what may not be", es, inTxn(0, 2, 3), -1, api.OK},
			checkRow{"nobody's Commit", es, commit(0, 0), -1, api.OK},
			checkRow{"first Data", es, data(1, 0, 0), -1, api.OK},
			checkRow{"first Data, of a transaction", es, inTxn(1, 0, 0), -1, api.OK},
			checkRow{"first Data with a Ver", es, data(top, top, 0), -1, api.OK},
			checkRow{"first Data with the Seq 1", es, data(1, 0, 1), 0, api.ErrGap},
			checkRow{"first Data with the Seq 6", es, data(1, 9, 6), 0, api.ErrGap},
			checkRow{"first Data with the greatest Seq", es, inTxn(1, 0, top), 0, api.ErrGap},
			checkRow{"first Commit", es, commit(1, 0), -1, api.OK},
			checkRow{"first Abort", es, abort(1, 9), -1, api.OK},
			checkRow{"first Commit with a Seq", es, api.Entry{Kind: api.Commit, Pid: 1, Seq: 3}, -1, api.OK})
	}
	runChecks(t, rows)
}

// TestCheckFence: P3.3, a lower Ver is refused, whatever the entry is, and ahead of a gap.
func TestCheckFence(t *testing.T) {
	var rows []checkRow
	for _, es := range [][]api.Entry{
		{data(1, 0, 0), data(1, 2, 0)},
		{inTxn(1, 0, 0), commit(1, 0), inTxn(1, 2, 0)},
		{inTxn(1, 0, 0), commit(1, 0), abort(1, 2), data(0, 0, 0), data(2, 0, 0)},
	} {
		for ver := range 2 {
			for seq := range 3 {
				rows = append(rows, checkRow{"Data", es, data(1, ver, seq), 0, api.ErrFence})
				rows = append(rows, checkRow{"Data with Txn", es, inTxn(1, ver, seq), 0, api.ErrFence})
			}
			rows = append(rows, checkRow{"a Commit", es, commit(1, ver), 0, api.ErrFence})
			rows = append(rows, checkRow{"an Abort", es, abort(1, ver), 0, api.ErrFence})
		}
		rows = append(rows, checkRow{"the same Ver", es, commit(1, 2), -1, api.OK})
		rows = append(rows, checkRow{"a higher Ver", es, data(1, 3, 0), -1, api.OK})
		rows = append(rows, checkRow{"nobody", es, data(0, 0, 0), -1, api.OK})
	}
	runChecks(t, rows)
}

// TestCheckMarker: P3.3, a Commit or an Abort stands already, if it is the last one's like, and nothing is open.
func TestCheckMarker(t *testing.T) {
	done := []api.Entry{inTxn(1, 1, 0), commit(1, 1)}
	gone := []api.Entry{inTxn(1, 1, 0), abort(1, 1)}
	twice := []api.Entry{commit(1, 1), inTxn(1, 1, 0), commit(1, 1), data(1, 1, 1), data(2, 0, 0)}
	open := []api.Entry{inTxn(1, 1, 0), commit(1, 1), inTxn(1, 1, 1)}
	runChecks(t, []checkRow{
		{"a Commit again", done, commit(1, 1), 1, api.OK},
		{"an Abort again", gone, abort(1, 1), 1, api.OK},
		{"an Abort behind a Commit", done, abort(1, 1), -1, api.OK},
		{"a Commit behind an Abort", gone, commit(1, 1), -1, api.OK},
		{"a Commit with a higher Ver", done, commit(1, 2), -1, api.OK},
		{"an Abort with a higher Ver", gone, abort(1, 2), -1, api.OK},
		{"the last one, not the first one", twice, commit(1, 1), 2, api.OK},
		{"the last one, not one ahead of it", []api.Entry{commit(1, 1), abort(1, 1)}, commit(1, 1), -1, api.OK},
		{"open once more", open, commit(1, 1), -1, api.OK},
		{"open once more, an Abort", open, abort(1, 1), -1, api.OK},
		{"open since a higher version", []api.Entry{commit(1, 1), inTxn(1, 2, 0), data(1, 1, 0)}, commit(1, 1), -1, api.OK},
		{"open, and none ahead", []api.Entry{inTxn(1, 1, 0)}, commit(1, 1), -1, api.OK},
		{"nothing open, and none ahead", []api.Entry{data(1, 1, 0)}, abort(1, 1), -1, api.OK},
		{"at the first place", []api.Entry{abort(1, 0)}, abort(1, 0), 0, api.OK},
		{"another one's", []api.Entry{commit(2, 1), data(1, 1, 0)}, commit(1, 1), -1, api.OK},
		{"another one's behind its own", []api.Entry{commit(1, 1), abort(2, 1)}, commit(1, 1), 0, api.OK},
		{"another one's is open", []api.Entry{commit(1, 1), inTxn(2, 1, 0)}, commit(1, 1), 0, api.OK},
		{"another Epoch", done, api.Entry{Kind: api.Commit, Pid: 1, Ver: 1, Epoch: 7, Txn: true}, 1, api.OK},
	})
}

// TestCheckData: P3.3, Data with the next Seq, with a higher one, and with a lower one.
func TestCheckData(t *testing.T) {
	es := []api.Entry{data(2, 0, 1), data(1, 0, 0), data(0, 0, 0), inTxn(1, 0, 1), commit(1, 0), data(1, 0, 1), data(1, 0, 3)}
	higher := []api.Entry{data(1, 0, 0), data(1, 0, 1), data(1, 2, 0), data(1, 2, 1), data(1, 2, 2)}
	runChecks(t, []checkRow{
		{"next", es, data(1, 0, 4), -1, api.OK},
		{"next, of a transaction", es, inTxn(1, 0, 4), -1, api.OK},
		{"one left out", es, data(1, 0, 5), 0, api.ErrGap},
		{"many left out", es, data(1, 0, top), 0, api.ErrGap},
		{"the last one again", es, data(1, 0, 3), 6, api.OK},
		{"the first of two", es, data(1, 0, 1), 3, api.OK},
		{"the first one", es, data(1, 0, 0), 1, api.OK},
		{"another Text, Epoch and Txn", es, api.Entry{Kind: api.Data, Pid: 1, Epoch: 8, Text: "x", Txn: true}, 1, api.OK},
		{"a lower one that there is not", es, data(1, 0, 2), 0, api.ErrGap},
		{"a marker does not count as Data", []api.Entry{commit(1, 0), data(1, 0, 1)}, data(1, 0, 0), 0, api.ErrGap},
		{"a higher Ver begins at 0", es, data(1, 1, 0), -1, api.OK},
		{"a higher Ver with the next Seq", es, data(1, 1, 4), 0, api.ErrGap},
		{"a higher Ver with a lower Seq", es, data(1, 1, 1), 0, api.ErrGap},
		{"a higher Ver that was there", []api.Entry{data(1, 1, 0), data(1, 0, 0)}, data(1, 1, 0), -1, api.OK},
		{"stands with its own Ver", higher, data(1, 2, 0), 2, api.OK},
		{"stands with its own Ver, further on", higher, data(1, 2, 1), 3, api.OK},
		{"next of the last Ver", higher, data(1, 2, 3), -1, api.OK},
		{"stands ahead of a version that fell", []api.Entry{data(1, 1, 0), data(1, 0, 5), data(1, 1, 2)}, data(1, 1, 0), 0, api.OK},
		{"only with a lower Ver", []api.Entry{data(1, 0, 0), data(1, 1, 1)}, data(1, 1, 0), 0, api.ErrGap},
	})
}

// TestStable: P3.4, ahead of all transactions that are open in the first entries.
func TestStable(t *testing.T) {
	es := []api.Entry{
		data(0, 0, 0), inTxn(1, 0, 0), inTxn(2, 0, 0), commit(1, 0), inTxn(1, 0, 1),
		abort(2, 0), data(3, 0, 0), commit(1, 0), inTxn(3, 0, 1), inTxn(2, 0, 1),
	}
	for high, want := range []int{0, 1, 1, 1, 2, 2, 4, 4, 8, 8, 8} {
		if got, refused := Stable(es, high); got != want || refused != api.OK {
			t.Errorf("Stable of %d entries = %d, %v, want %d", high, got, refused, want)
		}
	}
	for n := range len(es) + 1 {
		for _, high := range []int{math.MinInt, -1, n + 1, n + 2, math.MaxInt} {
			if got, refused := Stable(es[:n], high); got != 0 || refused != api.ErrRange {
				t.Errorf("Stable of %d of %d entries = %d, %v, want %v", high, n, got, refused, api.ErrRange)
			}
		}
	}
	if got, refused := Stable(nil, 0); got != 0 || refused != api.OK {
		t.Errorf("Stable of nothing = %d, %v", got, refused)
	}
}

// readRow: what is read, and what is wanted of that.
type readRow struct {
	name             string
	es               []api.Entry
	high, from, most int
	texts            []string
	place            int
}

func runReads(t *testing.T, rows []readRow) {
	t.Helper()
	for _, r := range rows {
		texts, place, refused := Read(r.es, r.high, r.from, r.most)
		if !slices.Equal(texts, r.texts) || place != r.place || refused != api.OK {
			t.Errorf("%s: Read(%v, %d, %d, %d) = %q, %d, %v, want %q, %d",
				r.name, r.es, r.high, r.from, r.most, texts, place, refused, r.texts, r.place)
		}
	}
}

// TestRead: P3.5, which Texts are read.
func TestRead(t *testing.T) {
	plain := named(data(0, 0, 0), data(1, 0, 0), data(1, 0, 1))
	done := named(inTxn(1, 0, 0), data(1, 0, 1), commit(1, 0), data(0, 0, 0))
	gone := named(inTxn(1, 0, 0), data(1, 0, 1), abort(1, 0), data(0, 0, 0))
	both := named(inTxn(1, 0, 0), inTxn(2, 0, 0), abort(2, 0), inTxn(1, 0, 1), commit(1, 0), inTxn(1, 0, 2), abort(1, 0), commit(2, 0))
	open := named(data(0, 0, 0), inTxn(1, 0, 0), data(0, 0, 0), commit(1, 0), inTxn(2, 0, 0), data(0, 0, 0))
	runReads(t, []readRow{
		{"nothing", nil, 0, 0, 1, nil, 0},
		{"without Txn", plain, 3, 0, 20, []string{"0", "1", "2"}, 3},
		{"a Commit", done, 4, 0, 20, []string{"0", "1", "3"}, 4},
		{"an Abort", gone, 4, 0, 20, []string{"1", "3"}, 4},
		{"the next one, of each its own", both, 8, 0, 20, []string{"0", "3"}, 8},
		{"up to an open one", open, 6, 0, 20, []string{"0", "1", "2"}, 4},
		{"its Commit is not below high", open, 3, 0, 20, []string{"0"}, 1},
		{"its Commit is the last one below high", open, 4, 0, 20, []string{"0", "1", "2"}, 4},
		{"no entries are below high", open, 0, 0, 20, nil, 0},
		{"empty Texts are Texts", []api.Entry{data(0, 0, 0), data(1, 0, 0)}, 2, 0, 20, []string{"", ""}, 2},
		{"a Commit with another Ver", named(inTxn(1, 0, 0), commit(1, 3)), 2, 0, 20, []string{"0"}, 2},
		{"of two in a row the next one", named(inTxn(1, 0, 0), commit(1, 0), abort(1, 0)), 3, 0, 20, []string{"0"}, 3},
		{"nobody's with Txn is looked at, and not read", named(inTxn(0, 0, 0)), 1, 0, 1, nil, 1},
		{"nobody's with Txn holds nothing up", named(inTxn(0, 0, 0), data(0, 0, 0), data(1, 0, 0)), 3, 0, 20, []string{"1", "2"}, 3},
		{"a producer's Commit is not nobody's", named(inTxn(0, 0, 0), inTxn(1, 0, 0), commit(1, 0)), 3, 0, 20, []string{"1"}, 3},
		{"nobody's Commit is no producer's", named(inTxn(0, 0, 0), inTxn(1, 0, 0), commit(0, 0), abort(1, 0)), 4, 0, 20, nil, 4},
		{"of two in a row the next one, an Abort", named(inTxn(1, 0, 0), abort(1, 0), commit(1, 0)), 3, 0, 20, nil, 3},
	})
}

// TestReadPlace: P3.5, from where, how many, and the place behind the last one that was looked at.
func TestReadPlace(t *testing.T) {
	es := named(data(0, 0, 0), inTxn(1, 0, 0), abort(1, 0), data(0, 0, 0), inTxn(1, 0, 1), commit(1, 0), inTxn(2, 0, 0), data(0, 0, 0))
	many := named(slices.Repeat([]api.Entry{data(0, 0, 0)}, 25)...)
	var all []string
	for _, e := range many {
		all = append(all, e.Text)
	}
	runReads(t, []readRow{
		{"one", es, 8, 0, 1, []string{"0"}, 1},
		{"two, with others between", es, 8, 0, 2, []string{"0", "3"}, 4},
		{"what follows the last one is not looked at", es, 8, 1, 1, []string{"3"}, 4},
		{"just as many as there are", es, 8, 0, 3, []string{"0", "3", "4"}, 5},
		{"more than there are", es, 8, 0, 4, []string{"0", "3", "4"}, 6},
		{"only a marker is left", es, 8, 5, 1, nil, 6},
		{"from within an aborted one", es, 8, 2, 20, []string{"3", "4"}, 6},
		{"from the stable ones' end", es, 8, 6, 20, nil, 6},
		{"from behind it", es, 8, 7, 20, nil, 7},
		{"from the end of all", es, 8, 8, 20, nil, 8},
		{"from behind high", es, 3, 5, 20, nil, 5},
		{"from the end of all, far behind high", es, 0, 8, 20, nil, 8},
		{"as many as may be", many, 25, 0, api.MaxRead, all[:20], 20},
		{"the rest", many, 25, 20, api.MaxRead, all[20:], 25},
		{"as far as high", many, 22, 5, api.MaxRead, all[5:22], 22},
	})
}

// TestReadRefuses: P3.5, numbers outside their bounds, each by itself.
func TestReadRefuses(t *testing.T) {
	es := named(data(0, 0, 0), data(0, 0, 0), data(0, 0, 0))
	far := []int{math.MinInt, -1}
	beyond := []int{len(es) + 1, math.MaxInt}
	var rows [][3]int
	for _, n := range append(slices.Clone(far), beyond...) {
		rows = append(rows, [3]int{n, 0, 1}, [3]int{3, n, 1}, [3]int{2, n, 1}, [3]int{n, n, n})
	}
	for _, most := range append(slices.Clone(far), 0, api.MaxRead+1, math.MaxInt) {
		rows = append(rows, [3]int{3, 0, most}, [3]int{0, 3, most})
	}
	for _, r := range rows {
		if texts, place, refused := Read(es, r[0], r[1], r[2]); len(texts) != 0 || place != 0 || refused != api.ErrRange {
			t.Errorf("Read(.., %d, %d, %d) = %q, %d, %v, want %v", r[0], r[1], r[2], texts, place, refused, api.ErrRange)
		}
	}
	for _, r := range [][3]int{{0, 0, 1}, {3, 3, api.MaxRead}, {0, 3, 1}} {
		if _, _, refused := Read(es, r[0], r[1], r[2]); refused != api.OK {
			t.Errorf("Read(.., %d, %d, %d): %v", r[0], r[1], r[2], refused)
		}
	}
}

// numberBy: P3.1, slowly, word by word: the version, and one above the number.
func numberBy(es []api.Entry, pid int) (ver, next int, known bool) {
	var own []api.Entry
	for _, e := range es {
		if e.Pid == pid {
			own = append(own, e)
		}
	}
	if len(own) == 0 {
		return 0, 0, false
	}
	ver = own[len(own)-1].Ver
	for i := len(own) - 1; i >= 0 && own[i].Ver == ver; i-- {
		if own[i].Kind == api.Data {
			return ver, own[i].Seq + 1, true
		}
	}
	return ver, 0, true
}

// lastMarkerBy: where a producer's last Commit or Abort stands, or -1.
func lastMarkerBy(es []api.Entry, pid int) int {
	last := -1
	for i, e := range es {
		if e.Pid == pid && e.Kind != api.Data {
			last = i
		}
	}
	return last
}

// beginBy: P3.2, slowly: where a producer's open transaction begins, or -1; nobody has none.
func beginBy(es []api.Entry, pid int) int {
	if pid == 0 {
		return -1
	}
	for i := lastMarkerBy(es, pid) + 1; i < len(es); i++ {
		if es[i].Pid == pid && es[i].Kind == api.Data && es[i].Txn {
			return i
		}
	}
	return -1
}

// checkBy: P3.3, slowly, word by word.
func checkBy(es []api.Entry, x api.Entry) (int, api.Errno) {
	ver, next, known := numberBy(es, x.Pid)
	switch {
	case x.Pid == 0, !known && (x.Kind != api.Data || x.Seq == 0):
		return -1, api.OK
	case !known:
		return 0, api.ErrGap
	case x.Ver < ver:
		return 0, api.ErrFence
	case x.Kind != api.Data:
		at := lastMarkerBy(es, x.Pid)
		if beginBy(es, x.Pid) >= 0 || at < 0 || es[at].Kind != x.Kind || es[at].Ver != x.Ver {
			return -1, api.OK
		}
		return at, api.OK
	}
	if x.Ver > ver {
		next = 0
	}
	at := slices.IndexFunc(es, func(e api.Entry) bool {
		return e.Kind == api.Data && e.Pid == x.Pid && e.Ver == x.Ver && e.Seq == x.Seq
	})
	switch {
	case x.Seq == next:
		return -1, api.OK
	case x.Seq > next || at < 0:
		return 0, api.ErrGap
	}
	return at, api.OK
}

// stableBy: P3.4, slowly.
func stableBy(es []api.Entry) int {
	end := len(es)
	for _, e := range es {
		if begin := beginBy(es, e.Pid); begin >= 0 {
			end = min(end, begin)
		}
	}
	return end
}

// readBy: P3.5, slowly, at numbers within their bounds.
func readBy(es []api.Entry, from, most int) ([]string, int) {
	var texts []string
	end := stableBy(es)
	for ; from < end && len(texts) < most; from++ {
		e := es[from]
		next := slices.IndexFunc(es[from:], func(o api.Entry) bool { return o.Pid == e.Pid && o.Kind != api.Data })
		committed := e.Pid != 0 && next >= 0 && es[from+next].Kind == api.Commit
		if e.Kind == api.Data && (!e.Txn || committed) {
			texts = append(texts, e.Text)
		}
	}
	return texts, from
}

// letters: entries from which all short lists are made.
func letters() []api.Entry {
	l := []api.Entry{data(0, 0, 0), inTxn(0, 0, 0), commit(0, 0), data(2, 0, 0), inTxn(2, 0, 0), commit(2, 0)}
	for ver := range 2 {
		l = append(l, data(1, ver, 0), data(1, ver, 1), inTxn(1, ver, 0), inTxn(1, ver, 1), commit(1, ver), abort(1, ver))
	}
	return l
}

// TestAllShort: P3.1 to P3.5, at all lists of at most four of the letters, against the words.
func TestAllShort(t *testing.T) {
	l := letters()
	probes := append(letters(), data(1, 0, 2), data(1, 1, 2), data(1, 2, 0), data(1, 2, 1), commit(1, 2))
	var walk func(es []api.Entry)
	walk = func(es []api.Entry) {
		agree(t, named(slices.Clone(es)...), probes)
		if len(es) == 4 || t.Failed() {
			return
		}
		for _, e := range l {
			walk(append(es, e))
		}
	}
	walk(nil)
}

// agree: do the calls say what the words say?
func agree(t *testing.T, es, probes []api.Entry) {
	t.Helper()
	for _, x := range probes {
		place, refused := Check(es, x)
		if p, r := checkBy(es, x); place != p || refused != r {
			t.Errorf("Check(%v, %v) = %d, %v, want %d, %v", es, x, place, refused, p, r)
		}
	}
	for high := range len(es) + 1 {
		got, refused := Stable(es, high)
		if want := stableBy(es[:high]); got != want || refused != api.OK {
			t.Errorf("Stable(%v, %d) = %d, %v, want %d", es, high, got, refused, want)
		}
		for from := range len(es) + 1 {
			most := 1 + (high+from)%3
			texts, place, refused := Read(es, high, from, most)
			wanted, behind := readBy(es[:high], from, most)
			if !slices.Equal(texts, wanted) || place != behind || refused != api.OK {
				t.Errorf("Read(%v, %d, %d, %d) = %q, %d, %v, want %q, %d", es, high, from, most, texts, place, refused, wanted, behind)
			}
		}
	}
}

// TestMany: every call ends, at many entries of many producers, all of whose transactions are aborted at the end.
func TestMany(t *testing.T) {
	const n = 100000
	var es []api.Entry
	for i := range n {
		es = append(es, inTxn(1+i, 0, 0))
	}
	for i := range n {
		es = append(es, abort(1+i, 0))
	}
	es = append(es, api.Entry{Kind: api.Data, Text: "end"})
	if texts, place, refused := Read(es, len(es), 0, 1); !slices.Equal(texts, []string{"end"}) || place != len(es) || refused != api.OK {
		t.Errorf("Read = %q, %d, %v", texts, place, refused)
	}
	if got, refused := Stable(es, 2*n-1); got != n-1 || refused != api.OK {
		t.Errorf("Stable = %d, %v", got, refused)
	}
	if place, refused := Check(es, abort(n, 0)); place != 2*n-1 || refused != api.OK {
		t.Errorf("Check = %d, %v", place, refused)
	}
}

// TestAnyEntries: no call panics, at entries of which nothing is promised, and with an error nothing else comes.
func TestAnyEntries(t *testing.T) {
	numbers := []int{math.MinInt, -1, 0, 1, top + 1, math.MaxInt}
	var l []api.Entry
	for _, n := range numbers {
		for _, kind := range append(slices.Clone(numbers), api.Commit, api.Abort) {
			l = append(l, api.Entry{Kind: kind, Pid: n, Ver: 1, Seq: n, Txn: true}, api.Entry{Kind: kind, Pid: 1, Ver: n, Seq: n})
		}
	}
	for i, x := range l {
		for _, es := range [][]api.Entry{l, l[:i], l[i:], {x}, {x, x}} {
			if place, refused := Check(es, x); refused != api.OK && place != 0 || place < -1 || place >= len(es) && place > 0 {
				t.Errorf("Check(%v) = %d, %v", x, place, refused)
			}
			end, refused := Stable(es, len(es))
			if end < 0 || end > len(es) || refused != api.OK {
				t.Errorf("Stable = %d, %v", end, refused)
			}
			if _, place, refused := Read(es, len(es), 0, api.MaxRead); place > end || refused != api.OK {
				t.Errorf("Read = %d, %v", place, refused)
			}
		}
	}
}

// TestMemory: nothing that is handed in is changed, spare room neither, and what comes out is new.
func TestMemory(t *testing.T) {
	room := named(data(0, 0, 0), inTxn(1, 0, 0), commit(1, 0), data(1, 0, 1), inTxn(2, 0, 0), data(0, 0, 0))
	was := slices.Clone(room)
	es := room[:4]
	one, _, _ := Read(es, 4, 0, 20)
	two, _, _ := Read(es, 4, 0, 20)
	Check(es, data(1, 0, 0))
	Stable(es, 3)
	if !slices.Equal(room, was) {
		t.Error("what was handed in is changed")
	}
	clear(one[:cap(one)])
	clear(room)
	if !slices.Equal(two, []string{"0", "1", "3"}) {
		t.Errorf("an answer of Read is shared: %q", two)
	}
}
