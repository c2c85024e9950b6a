package part

import (
	"fmt"
	"math/rand"
	"slices"
	"testing"

	"tailrace/api"
	"tailrace/seg"
)

// calls that a part in the middle of its life lets come, and Copy.
func calls() map[string]answer {
	return map[string]answer{
		"Copy":                    func(p api.Part) (api.Part, int, api.Errno) { return Copy(p), 0, api.OK },
		"Put":                     put(api.Entry{Kind: api.Data, Text: "more"}),
		"Put of one that stands":  put(api.Entry{Kind: api.Data, Pid: 7}),
		"Sync":                    of(Sync, 0),
		"Sync of the leader":      of(Sync, 1),
		"Fetch":                   fetch(0),
		"Fetch without a cut":     fetch(2),
		"Crash":                   crash(0, 1),
		"Crash of the leader":     crash(1, 100),
		"Rise":                    of(Rise, 3),
		"Wipe":                    of(Wipe, 3),
		"Elect":                   of(Elect, 0),
		"Shrink":                  of(Shrink, 0),
		"Expand":                  of(Expand, 2),
		"New":                     func(api.Part) (api.Part, int, api.Errno) { p, e := New(4, 2); return p, 0, e },
		"Sync of what is safe":    of(Sync, 2),
		"Crash of what is safe":   crash(2, 0),
		"Elect while nobody does": of(Elect, 1),
	}
}

// roomy: a part with spare room in all its lists, which the calls above do not refuse.
func roomy(leader int) api.Part {
	p := middle()
	p.Leader, p.Known[2] = leader, 6
	p.Replicas[1].Log = logWith(1, api.Entry{Epoch: 1, Kind: api.Data, Pid: 7}, api.Entry{Epoch: 1, Kind: api.Data}, api.Entry{Epoch: 2, Kind: api.Data})
	p.Replicas[2].Log.Synced = len(p.Replicas[2].Log.Bytes)
	p.Isr = slices.Grow(p.Isr, 7)
	p.Known = slices.Grow(p.Known, 7)
	p.Replicas = slices.Grow(p.Replicas, 7)
	for r := range p.Replicas {
		p.Replicas[r].Log.Bytes = slices.Grow(p.Replicas[r].Log.Bytes, 200)
	}
	return p
}

// listsOf a part, each with a way to write over it, to the end of its spare room.
func listsOf(p api.Part) []func(mark byte) {
	all := []func(byte){
		func(mark byte) { fill(p.Isr, mark%2 == 0) },
		func(mark byte) { fill(p.Known, int(mark)) },
	}
	for r := range p.Replicas {
		b := p.Replicas[r].Log.Bytes
		all = append(all, func(mark byte) { fill(b, mark) })
	}
	// The last one, since the others are found by it.
	return append(all, func(mark byte) { fill(p.Replicas, api.Replica{High: int(mark)}) })
}

func fill[T any](l []T, x T) {
	l = l[:cap(l)]
	for i := range l {
		l[i] = x
	}
}

// room: all that a part's lists hold, spare room, too.
func room(p api.Part) string {
	p.Isr = p.Isr[:cap(p.Isr)]
	p.Known = p.Known[:cap(p.Known)]
	p.Replicas = slices.Clone(p.Replicas[:cap(p.Replicas)])
	for r, replica := range p.Replicas {
		p.Replicas[r].Log.Bytes = replica.Log.Bytes[:cap(replica.Log.Bytes)]
	}
	return told(p)
}

// TestMemory: nothing that is handed in is changed or kept, spare room neither, and what comes out is new.
func TestMemory(t *testing.T) {
	for name, call := range calls() {
		leader := 1
		if name == "Elect while nobody does" {
			leader = -1
		}
		p := roomy(leader)
		before := room(p)
		one, _, refused := call(p)
		two, _, _ := call(p)
		if refused != api.OK {
			t.Fatalf("%s: %v", name, refused)
		}
		if room(p) != before {
			t.Errorf("%s changed what was handed in", name)
		}
		want, whole := told(one), room(two)
		for _, write := range listsOf(p) {
			write(77)
		}
		if told(one) != want || room(two) != whole {
			t.Errorf("%s kept what was handed in", name)
		}
		before = room(p)
		for _, write := range listsOf(one) {
			write(88)
		}
		if room(two) != whole {
			t.Errorf("two answers of %s share memory", name)
		}
		if room(p) != before {
			t.Errorf("an answer of %s shares spare room with what was handed in", name)
		}
	}
}

// TestApart: no two lists of one answer share memory, even where those that are handed in do.
func TestApart(t *testing.T) {
	for name, call := range calls() {
		p := roomy(1)
		if name == "Elect while nobody does" {
			p.Leader = -1
		}
		p.Replicas[2].Log.Bytes = p.Replicas[0].Log.Bytes[:len(p.Replicas[2].Log.Bytes)]
		got, _, refused := call(p)
		if refused != api.OK {
			t.Fatalf("%s: %v", name, refused)
		}
		for r := range got.Replicas {
			for s := range got.Replicas {
				if s == r {
					continue
				}
				before := fmt.Sprint(got.Replicas[s].Log)
				fill(got.Replicas[r].Log.Bytes, 99)
				if fmt.Sprint(got.Replicas[s].Log) != before {
					t.Errorf("%s: the logs of %d and %d share memory", name, r, s)
				}
			}
		}
	}
}

// witness: what was ever below anybody's High, and what was ever read.
type witness struct {
	kept  []api.Entry
	texts []string
}

// longer of two lists, one of which the other one begins with; false: they differ.
func longer[T comparable](a, b []T) ([]T, bool) {
	if len(a) < len(b) {
		a, b = b, a
	}
	return a, slices.Equal(a[:len(b)], b)
}

// see a part: is all that was kept there still?
func (w *witness) see(p api.Part) string {
	same := true
	for r, replica := range p.Replicas {
		entries, _, _ := seg.Entries(replica.Log)
		if w.kept, same = longer(w.kept, entries[:replica.High]); !same {
			return fmt.Sprint("below the High of ", r, " stand others than before")
		}
	}
	for r, replica := range p.Replicas {
		entries, safe, _ := seg.Entries(replica.Log)
		if p.Isr[r] && (safe < len(w.kept) || !slices.Equal(entries[:len(w.kept)], w.kept)) {
			return fmt.Sprint(r, " keeps up, and has not all that is kept")
		}
	}
	if p.Leader < 0 {
		return ""
	}
	if w.texts, same = longer(w.texts, readAll(p)); !same {
		return "others are read than before"
	}
	return ""
}

func readAll(p api.Part) []string {
	var all []string
	at := 0
	for {
		texts, n, refused := Read(p, at, 3)
		if refused != api.OK || n == at {
			return all
		}
		all = append(all, texts...)
		at = n
	}
}

// drawnEntry of one of two producers, or of nobody, with a Text that no other one has.
func drawnEntry(d *rand.Rand, i int) api.Entry {
	e := api.Entry{Kind: api.Data, Pid: d.Intn(3), Text: fmt.Sprint(i)}
	if e.Pid == 0 {
		return e
	}
	e.Ver, e.Seq, e.Txn = d.Intn(8)/7, d.Intn(4), d.Intn(2) == 0
	if d.Intn(4) == 0 {
		return api.Entry{Kind: api.Commit + d.Intn(2), Pid: e.Pid, Ver: e.Ver, Txn: true}
	}
	return e
}

// drawnCall of any kind; puts, fetches and syncs come more often, so that something is kept.
func drawnCall(d *rand.Rand, replicas, i int) answer {
	r := d.Intn(replicas)
	switch d.Intn(20) {
	case 0, 1, 2, 3:
		return put(drawnEntry(d, i))
	case 4, 5, 6, 7, 8:
		return fetch(r)
	case 9, 10, 11:
		return of(Sync, r)
	case 12:
		return crash(r, d.Intn(40))
	case 13, 14:
		return of(Rise, r)
	case 15:
		return of(Wipe, r)
	case 16, 17:
		return of(Elect, r)
	case 18:
		return of(Shrink, r)
	}
	return of(Expand, r)
}

// TestKept: what comes of all promises: what is below anybody's High is never lost, and what was read is read again.
func TestKept(t *testing.T) {
	d := rand.New(rand.NewSource(4))
	most := 0
	for range 400 {
		replicas := 1 + d.Intn(api.MaxReplicas)
		p, _ := New(replicas, 1+d.Intn(replicas))
		var w witness
		for i := range 200 {
			q, _, refused := drawnCall(d, replicas, i)(p)
			if refused != api.OK {
				continue
			}
			p = q
			if Check(p) != api.OK {
				t.Fatalf("step %d: this part may not be: %v", i, p)
			}
			if wrong := w.see(p); wrong != "" {
				t.Fatalf("step %d: %s: %v", i, wrong, p)
			}
		}
		most = max(most, len(w.texts))
	}
	if most < 10 {
		t.Errorf("at most %d texts were read: these walks tell too little", most)
	}
}

// drawnPart: any one, that mostly may be, but need not have come of calls.
func drawnPart(d *rand.Rand) api.Part {
	n := 1 + d.Intn(api.MaxReplicas)
	p := api.Part{Epoch: d.Intn(3), Leader: d.Intn(n+1) - 1, Few: 1 + d.Intn(n), Base: d.Intn(5)}
	for range n {
		var epochs []int
		for range d.Intn(5) {
			epochs = append(epochs, d.Intn(5)/4)
		}
		p.Isr = append(p.Isr, d.Intn(4) > 0)
		p.Known = append(p.Known, d.Intn(6))
		p.Replicas = append(p.Replicas, api.Replica{
			Up:   d.Intn(4) > 0,
			Log:  logOf(d.Intn(len(epochs)+1), epochs...),
			High: d.Intn(len(epochs) + 1),
		})
	}
	switch d.Intn(30) {
	case 0:
		p.Known = p.Known[1:]
	case 1:
		p.Isr = nil
	case 2:
		p.Replicas[n-1].Log.Synced++
	case 3:
		p.Few = d.Int()
	}
	return p
}

// TestDrawn: P4.2, at drawn parts: calls refuse just what Check refuses, and what comes out may be.
func TestDrawn(t *testing.T) {
	d := rand.New(rand.NewSource(5))
	for i := range 30000 {
		p := drawnPart(d)
		bad := Check(p)
		q, _, refused := drawnCall(d, len(p.Replicas), i)(p)
		if bad != api.OK && refused != api.ErrState {
			t.Fatalf("%v may not be, and is not refused", p)
		}
		if bad == api.OK && refused == api.OK && Check(q) != api.OK {
			t.Fatalf("of %v came %v, which may not be", p, q)
		}
	}
}
