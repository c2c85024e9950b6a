package seg

import (
	"bytes"
	"math"
	"slices"
	"strings"
	"testing"

	"tailrace/api"
	"tailrace/wire"
)

// samples: entries that may be, of several sizes: 8, 10, 8, 64 and 9 bytes.
func samples() []api.Entry {
	const top = api.MaxNumber
	return []api.Entry{
		{Kind: api.Data},
		{Kind: api.Data, Epoch: 1, Pid: 200, Seq: 3, Text: "a"},
		{Kind: api.Commit, Pid: 1, Txn: true},
		{Kind: api.Data, Epoch: top, Pid: top, Ver: top, Seq: top, Txn: true, Text: strings.Repeat("z", api.MaxText)},
		{Kind: api.Data, Text: "b"},
	}
}

// ends: where each of the samples ends; the first number is where the first one begins.
var ends = [...]int{0, 8, 18, 26, 90, 99}

// encoded: the bytes of entries that may be.
func encoded(t *testing.T, entries ...api.Entry) []byte {
	t.Helper()
	var all []byte
	for _, e := range entries {
		b, refused := wire.Encode(e)
		if refused != api.OK {
			t.Fatalf("Encode(%+v): %v", e, refused)
		}
		all = append(all, b...)
	}
	return all
}

// same: two logs, byte by byte.
func same(a, b api.Log) bool { return a.Synced == b.Synced && bytes.Equal(a.Bytes, b.Bytes) }

// smallest: the bytes of so many entries, of 8 each.
func smallest(n int) []byte { return bytes.Repeat([]byte{5, 1, 0, 0, 0, 0, 0, 1}, n) }

type badLog struct {
	name string
	log  api.Log
	want api.Errno
}

// badLogs: logs that may not be, each error by itself and with those that are named behind it.
func badLogs(t *testing.T) []badLog {
	t.Helper()
	b := encoded(t, samples()...)
	wrong := slices.Clone(b)
	wrong[12]++
	junk := make([]byte, api.MaxBytes+1)
	rows := []badLog{
		{"too many bytes that are entries", api.Log{Bytes: smallest(api.MaxBytes/8 + 1)}, api.ErrSize},
		{"too many bytes of no entries", api.Log{Bytes: junk}, api.ErrSize},
		{"too many bytes, and Synced too low", api.Log{Bytes: junk, Synced: -1}, api.ErrSize},
		{"as many bytes of no entries as may be", api.Log{Bytes: junk[:api.MaxBytes]}, api.ErrForm},
		{"as many bytes as may be, but too many entries", api.Log{Bytes: smallest(api.MaxBytes / 8)}, api.ErrForm},
		{"one entry too many", api.Log{Bytes: smallest(api.MaxEntries + 1)}, api.ErrForm},
		{"one entry too many, all safe", api.Log{Bytes: smallest(api.MaxEntries + 1), Synced: 8*api.MaxEntries + 8}, api.ErrForm},
		{"one byte", api.Log{Bytes: []byte{1}}, api.ErrForm},
		{"the last byte is missing", api.Log{Bytes: b[:len(b)-1]}, api.ErrForm},
		{"one byte too many", api.Log{Bytes: append(slices.Clone(b), 0)}, api.ErrForm},
		{"a wrong byte behind what is safe", api.Log{Bytes: wrong, Synced: 8}, api.ErrForm},
		{"a wrong byte in what is safe", api.Log{Bytes: wrong, Synced: 18}, api.ErrForm},
		{"a wrong byte, and Synced too low", api.Log{Bytes: wrong, Synced: -1}, api.ErrForm},
		{"a wrong byte, and Synced too high", api.Log{Bytes: wrong, Synced: len(b) + 1}, api.ErrForm},
		{"nothing, and Synced too high", api.Log{Synced: 1}, api.ErrRange},
		{"nothing, and Synced too low", api.Log{Synced: -1}, api.ErrRange},
	}
	for _, n := range []int{math.MinInt, -8, -1, len(b) + 1, len(b) + 8, math.MaxInt} {
		rows = append(rows, badLog{"Synced outside", api.Log{Bytes: b, Synced: n}, api.ErrRange})
	}
	// What would be an entry more stands in the spare room, and is none.
	room := smallest(2)
	rows = append(rows, badLog{"Synced in the spare room", api.Log{Bytes: room[:8], Synced: 16}, api.ErrRange})
	for n := range b {
		if !slices.Contains(ends[:], n) {
			rows = append(rows, badLog{"Synced within an entry", api.Log{Bytes: b, Synced: n}, api.ErrForm})
		}
	}
	return rows
}

// TestCheckMayBe: P2.1, logs that may be.
func TestCheckMayBe(t *testing.T) {
	b := encoded(t, samples()...)
	logs := []api.Log{{}, {Bytes: []byte{}}}
	for _, end := range ends {
		for _, n := range ends {
			if n <= end {
				logs = append(logs, api.Log{Bytes: b[:end], Synced: n})
			}
		}
	}
	full := smallest(api.MaxEntries)
	logs = append(logs, api.Log{Bytes: full}, api.Log{Bytes: full, Synced: 8}, api.Log{Bytes: full, Synced: len(full)})
	longest := bytes.Repeat(encoded(t, samples()[3]), api.MaxEntries)
	logs = append(logs, api.Log{Bytes: longest}, api.Log{Bytes: longest, Synced: len(longest)})
	for _, l := range logs {
		if got := Check(l); got != api.OK {
			t.Errorf("Check(%v) = %v, want OK", l, got)
		}
	}
}

// TestCheckRefuses: P2.1, logs that may not be; of several errors the one named first.
func TestCheckRefuses(t *testing.T) {
	for _, r := range badLogs(t) {
		if got := Check(r.log); got != r.want {
			t.Errorf("%s (Synced %d): Check = %v, want %v", r.name, r.log.Synced, got, r.want)
		}
	}
}

// TestAllRefuse: P2.1, what Check refuses is refused by all, ahead of all else, and nothing comes with it.
func TestAllRefuse(t *testing.T) {
	for _, r := range badLogs(t) {
		entries, safe, refused := Entries(r.log)
		if refused != r.want || len(entries) != 0 || safe != 0 {
			t.Errorf("%s: Entries = %d entries, %d, %v, want %v", r.name, len(entries), safe, refused, r.want)
		}
		for name, call := range map[string]func() (api.Log, api.Errno){
			"Append":               func() (api.Log, api.Errno) { return Append(r.log, samples()[0]) },
			"Append of a bad kind": func() (api.Log, api.Errno) { return Append(r.log, api.Entry{}) },
			"Sync":                 func() (api.Log, api.Errno) { return Sync(r.log) },
			"Cut to 0":             func() (api.Log, api.Errno) { return Cut(r.log, 0) },
			"Cut to -1":            func() (api.Log, api.Errno) { return Cut(r.log, -1) },
			"Crash with 0":         func() (api.Log, api.Errno) { return Crash(r.log, 0) },
			"Crash with -1":        func() (api.Log, api.Errno) { return Crash(r.log, -1) },
		} {
			if l, refused := call(); refused != r.want || !same(l, api.Log{}) {
				t.Errorf("%s: %s = %v, %v, want %v", r.name, name, l, refused, r.want)
			}
		}
	}
}

// TestEntries: P2.2, all entries, and how many of them are safe.
func TestEntries(t *testing.T) {
	b := encoded(t, samples()...)
	for n, end := range ends {
		for safe, synced := range ends[:n+1] {
			got, m, refused := Entries(api.Log{Bytes: b[:end], Synced: synced})
			if refused != api.OK || m != safe || !slices.Equal(got, samples()[:n]) {
				t.Errorf("%d bytes, %d of them safe: %v, %d, %v, want %d entries, %d safe", end, synced, got, m, refused, n, safe)
			}
		}
	}
	full := api.Log{Bytes: smallest(api.MaxEntries), Synced: 8 * (api.MaxEntries - 1)}
	if got, m, refused := Entries(full); refused != api.OK || m != api.MaxEntries-1 || len(got) != api.MaxEntries {
		t.Errorf("a full log: %d entries, %d safe, %v", len(got), m, refused)
	}
}

// TestAppend: P2.3, an entry more, behind all, that is not safe.
func TestAppend(t *testing.T) {
	b := encoded(t, samples()...)
	for n, x := range samples() {
		for _, synced := range ends[:n+1] {
			got, refused := Append(api.Log{Bytes: b[:ends[n]], Synced: synced}, x)
			if want := (api.Log{Bytes: b[:ends[n+1]], Synced: synced}); refused != api.OK || !same(got, want) {
				t.Errorf("Append of %+v: %v, %v, want %v", x, got, refused, want)
			}
		}
	}
	got, refused := Append(api.Log{}, api.Entry{Kind: api.Data, Text: "a"})
	if want := (api.Log{Bytes: []byte{6, 1, 0, 0, 0, 0, 97, 2, 71}}); refused != api.OK || !same(got, want) {
		t.Errorf("Append to nothing: %v, %v, want %v", got, refused, want)
	}
}

// TestAppendRefuses: P2.3, entries that may not be, and a log without room; the entry is asked first.
func TestAppendRefuses(t *testing.T) {
	full := api.Log{Bytes: smallest(api.MaxEntries)}
	for _, x := range []api.Entry{
		{},
		{Kind: 4},
		{Kind: api.Data, Epoch: -1},
		{Kind: api.Data, Pid: api.MaxNumber + 1},
		{Kind: api.Data, Text: strings.Repeat("x", api.MaxText+1)},
		{Kind: api.Data, Seq: 1},
		{Kind: api.Abort, Pid: 1},
	} {
		want := wire.Check(x)
		for _, l := range []api.Log{{}, {Bytes: smallest(2), Synced: 8}, full} {
			if got, refused := Append(l, x); want == api.OK || refused != want || !same(got, api.Log{}) {
				t.Errorf("Append of %+v to %d bytes: %v, %v, want %v", x, len(l.Bytes), got, refused, want)
			}
		}
	}
	for _, x := range samples() {
		if got, refused := Append(full, x); refused != api.ErrFull || !same(got, api.Log{}) {
			t.Errorf("Append of %+v to a full log: %v, %v, want %v", x, got, refused, api.ErrFull)
		}
	}
	last := api.Log{Bytes: smallest(api.MaxEntries - 1)}
	if got, refused := Append(last, samples()[0]); refused != api.OK || !same(got, full) {
		t.Errorf("Append of the last one that has room: %d bytes, %v", len(got.Bytes), refused)
	}
}

// TestSync: P2.4, all is safe.
func TestSync(t *testing.T) {
	b := encoded(t, samples()...)
	for n, end := range ends {
		for _, synced := range ends[:n+1] {
			got, refused := Sync(api.Log{Bytes: b[:end], Synced: synced})
			if want := (api.Log{Bytes: b[:end], Synced: end}); refused != api.OK || !same(got, want) {
				t.Errorf("Sync of %d bytes, %d of them safe: %v, %v, want %v", end, synced, got, refused, want)
			}
		}
	}
}

// TestCut: P2.4, the first entries stay, and what was safe of them is so.
func TestCut(t *testing.T) {
	b := encoded(t, samples()...)
	for all, end := range ends {
		for _, synced := range ends[:all+1] {
			l := api.Log{Bytes: b[:end], Synced: synced}
			for n := range all + 1 {
				got, refused := Cut(l, n)
				if want := (api.Log{Bytes: b[:ends[n]], Synced: min(synced, ends[n])}); refused != api.OK || !same(got, want) {
					t.Errorf("Cut of %d bytes, %d of them safe, to %d: %v, %v, want %v", end, synced, n, got, refused, want)
				}
			}
			for _, n := range []int{math.MinInt, -1, all + 1, math.MaxInt} {
				if got, refused := Cut(l, n); refused != api.ErrRange || !same(got, api.Log{}) {
					t.Errorf("Cut of %d entries to %d: %v, %v, want %v", all, n, got, refused, api.ErrRange)
				}
			}
		}
	}
}

// TestCrash: P2.5, what is safe stays, and what is whole of so many bytes more; all of that is safe.
func TestCrash(t *testing.T) {
	b := encoded(t, samples()...)
	for all, end := range ends {
		for _, synced := range ends[:all+1] {
			l := api.Log{Bytes: b[:end], Synced: synced}
			for keep := range end - synced + 3 {
				whole := 0
				for _, e := range ends[:all+1] {
					if e <= synced+keep {
						whole = e
					}
				}
				got, refused := Crash(l, keep)
				if want := (api.Log{Bytes: b[:whole], Synced: whole}); refused != api.OK || !same(got, want) {
					t.Errorf("Crash of %d bytes, %d of them safe, with %d: %v, %v, want %v", end, synced, keep, got, refused, want)
				}
			}
			if got, refused := Crash(l, math.MaxInt); refused != api.OK || !same(got, api.Log{Bytes: b[:end], Synced: end}) {
				t.Errorf("Crash of %d bytes, %d of them safe, with all: %v, %v", end, synced, got, refused)
			}
			for _, keep := range []int{math.MinInt, -1} {
				if got, refused := Crash(l, keep); refused != api.ErrRange || !same(got, api.Log{}) {
					t.Errorf("Crash with %d: %v, %v, want %v", keep, got, refused, api.ErrRange)
				}
			}
		}
	}
}

// TestMemory: nothing that is handed in is changed or kept, spare room neither, and what comes out is new.
func TestMemory(t *testing.T) {
	b := encoded(t, samples()...)
	x := api.Entry{Kind: api.Data, Text: "more"}
	for name, call := range map[string]func(api.Log) (api.Log, api.Errno){
		"Append":        func(l api.Log) (api.Log, api.Errno) { return Append(l, x) },
		"Sync":          Sync,
		"Cut":           func(l api.Log) (api.Log, api.Errno) { return Cut(l, 3) },
		"Cut to all":    func(l api.Log) (api.Log, api.Errno) { return Cut(l, 5) },
		"Cut to 0":      func(l api.Log) (api.Log, api.Errno) { return Cut(l, 0) },
		"Crash":         func(l api.Log) (api.Log, api.Errno) { return Crash(l, 80) },
		"Crash to less": func(l api.Log) (api.Log, api.Errno) { return Crash(l, 20) },
	} {
		for _, synced := range []int{0, 8, len(b)} {
			room := append(slices.Clone(b), bytes.Repeat([]byte{77}, 200)...)
			was := slices.Clone(room)
			l := api.Log{Bytes: room[:len(b)], Synced: synced}
			one, _ := call(l)
			two, _ := call(l)
			if !bytes.Equal(room, was) {
				t.Errorf("%s changed what was handed in", name)
			}
			want := slices.Clone(one.Bytes)
			clear(room)
			if !bytes.Equal(one.Bytes, want) || !bytes.Equal(two.Bytes, want) {
				t.Errorf("%s kept what was handed in", name)
			}
			fill(two.Bytes)
			if !bytes.Equal(one.Bytes, want) {
				t.Errorf("two answers of %s share memory", name)
			}
			fill(one.Bytes)
			if slices.Contains(room, 99) {
				t.Errorf("an answer of %s shares spare room with what was handed in", name)
			}
		}
	}
	one, _, _ := Entries(api.Log{Bytes: b})
	two, _, _ := Entries(api.Log{Bytes: b})
	clear(one[:cap(one)])
	if !slices.Equal(two, samples()) || !bytes.Equal(b, encoded(t, samples()...)) {
		t.Error("an answer of Entries is shared")
	}
}

// fill a list to the end of its spare room.
func fill(b []byte) {
	b = b[:cap(b)]
	for i := range b {
		b[i] = 99
	}
}

// FuzzCalls: P2.1 to P2.5, at any log: all calls agree on what may be, and what comes out may be.
func FuzzCalls(f *testing.F) {
	var all []byte
	for _, e := range samples() {
		b, _ := wire.Encode(e)
		all = append(all, b...)
	}
	for _, end := range ends {
		f.Add(all, end, end)
	}
	f.Fuzz(func(t *testing.T, b []byte, synced, n int) {
		l := api.Log{Bytes: b, Synced: synced}
		want := Check(l)
		entries, safe, refused := Entries(l)
		if refused != want || safe < 0 || safe > len(entries) {
			t.Fatalf("Entries: %d, %d, %v", len(entries), safe, refused)
		}
		synced1, r1 := Sync(l)
		more, r2 := Append(l, samples()[0])
		if r1 != want || (r2 != want && r2 != api.ErrFull) {
			t.Fatalf("Sync: %v, Append: %v, want %v", r1, r2, want)
		}
		cut, _ := Cut(l, n)
		left, _ := Crash(l, n)
		for _, l := range []api.Log{synced1, more, cut, left} {
			if refused := Check(l); refused != api.OK {
				t.Fatalf("%v came out: %v", l, refused)
			}
		}
	})
}
