package coord

import (
	"fmt"
	"math/rand"
	"slices"
	"testing"

	"tailrace/api"
	"tailrace/wire"
)

// calls that a coordinator in the middle of its life lets come, and Copy.
func calls() map[string]answer {
	return map[string]answer{
		"Copy":                   func(c api.Coord) (api.Coord, [2]int, api.Errno) { return Copy(c), [2]int{}, api.OK },
		"New":                    func(api.Coord) (api.Coord, [2]int, api.Errno) { c, e := New(5); return c, [2]int{}, e },
		"Init of a new one":      initOf("hal"),
		"Init of an empty one":   initOf("ann"),
		"Init of an ongoing one": initOf("bob"),
		"Add: it begins":         add("ann", 0, 2),
		"Add between others":     add("bob", 2, 2),
		"Add behind others":      add("guy", 0, 3),
		"Add again":              add("bob", 2, 3),
		"End":                    end("bob", 2, true),
		"End of an empty one":    end("ann", 0, false),
		"End again":              end("cid", 5, true),
		"Done of the first part": done("cid", 0),
		"Done of the last part":  done("cid", 2),
		"Done of the only part":  done("dot", 3),
		"Tick":                   tick(100),
		"Tick, with one late":    tick(1),
		"Tick of none":           tick(0),
	}
}

// roomy: a coordinator with spare room in all its lists, which the calls above do not refuse.
func roomy() api.Coord {
	c := middle()
	c.Txns = slices.Grow(c.Txns, 5)
	for i := range c.Txns {
		c.Txns[i].Parts = slices.Grow(c.Txns[i].Parts, 5)
	}
	return c
}

func fill[T any](l []T, x T) {
	l = l[:cap(l)]
	for i := range l {
		l[i] = x
	}
}

// spoil: write over all lists of a coordinator, to the end of their spare room.
func spoil(c api.Coord, mark int) {
	for _, p := range c.Txns {
		fill(p.Parts, mark)
	}
	// The last one, since the others are found by it.
	fill(c.Txns, api.Txn{Name: "spoilt", Pid: mark})
}

// room: all that a coordinator's lists hold, spare room, too.
func room(c api.Coord) string {
	c.Txns = slices.Clone(c.Txns[:cap(c.Txns)])
	for i, p := range c.Txns {
		c.Txns[i].Parts = p.Parts[:cap(p.Parts)]
	}
	return told(c)
}

// TestMemory: nothing that is handed in is changed or kept, spare room neither, and what comes out is new.
func TestMemory(t *testing.T) {
	for name, call := range calls() {
		c := roomy()
		before := room(c)
		one, _, refused := call(c)
		two, _, _ := call(c)
		if refused != api.OK {
			t.Fatalf("%s: %v", name, refused)
		}
		if room(c) != before {
			t.Errorf("%s changed what was handed in", name)
		}
		want, whole := told(one), room(two)
		spoil(c, 77)
		if told(one) != want || room(two) != whole {
			t.Errorf("%s kept what was handed in", name)
		}
		before = room(c)
		spoil(one, 88)
		if room(two) != whole {
			t.Errorf("two answers of %s share memory", name)
		}
		if room(c) != before {
			t.Errorf("an answer of %s shares spare room with what was handed in", name)
		}
	}
}

// TestApart: no two lists of one answer share memory, even where those that are handed in do.
func TestApart(t *testing.T) {
	shared := make([]int, 2, 8)
	copy(shared, []int{0, 2})
	for name, call := range calls() {
		c := roomy()
		for i := range c.Txns {
			if c.Txns[i].State != api.Empty {
				c.Txns[i].Parts = shared
			} else {
				c.Txns[i].Parts = shared[:0]
			}
		}
		c.Txns[dot].Parts = []int{3}
		got, _, refused := call(c)
		if refused != api.OK {
			t.Fatalf("%s: %v", name, refused)
		}
		for i := range got.Txns {
			for j := range got.Txns {
				if j == i {
					continue
				}
				before := fmt.Sprint(got.Txns[j].Parts[:cap(got.Txns[j].Parts)])
				fill(got.Txns[i].Parts, 99+i)
				if fmt.Sprint(got.Txns[j].Parts[:cap(got.Txns[j].Parts)]) != before {
					t.Errorf("%s: the parts of %d and %d share memory", name, i, j)
				}
			}
		}
	}
}

// deal: what a witness knows of a producer's transaction.
type deal struct {
	pid, ver int
	parts    map[int]bool // that take part, and have no marker yet
	since    int
	kind     int // of its markers, once it is decided
	first    api.Entry
}

// witness of a coordinator's life: it goes by what calls answer, and looks into nothing.
type witness struct {
	deals   map[string]*deal
	pids    map[int]bool
	now     int
	wait    int
	commits int
	aborts  int
}

// decide a transaction, if there is one that is open.
func (d *deal) decide(kind int) {
	if len(d.parts) > 0 && d.kind == 0 {
		d.kind = kind
	}
}

func (w *witness) init(s string, pid, ver int) string {
	d := w.deals[s]
	if d == nil {
		if ver != 0 || w.pids[pid] || pid < 1 {
			return fmt.Sprint("a new producer has the Pid ", pid, ", and the Ver ", ver)
		}
		w.pids[pid] = true
		w.deals[s] = &deal{pid: pid, parts: map[int]bool{}}
		return ""
	}
	if pid != d.pid || ver != d.ver+1 {
		return fmt.Sprint("it had ", d.pid, " and ", d.ver, ", and has ", pid, " and ", ver)
	}
	d.ver = ver
	d.decide(api.Abort)
	return ""
}

func (w *witness) add(s string, ver, part int) string {
	d := w.deals[s]
	if d == nil || d.ver != ver || d.kind != 0 {
		return "a part was added, and should not be"
	}
	if len(d.parts) == 0 {
		d.since = w.now
	}
	d.parts[part] = true
	return ""
}

func (w *witness) end(s string, ver int, commit bool) string {
	kind := api.Abort
	if commit {
		kind = api.Commit
	}
	d := w.deals[s]
	if d == nil || d.ver != ver || d.kind != 0 && d.kind != kind {
		return "it ended, and should not"
	}
	d.decide(kind)
	return ""
}

// mark: a marker came to a part.
func (w *witness) mark(s string, part int, e api.Entry) string {
	d := w.deals[s]
	if d == nil || !d.parts[part] {
		return "the part has no part in it"
	}
	if e.Kind != d.kind || e.Pid != d.pid || e.Ver != d.ver || wire.Check(e) != api.OK {
		return fmt.Sprint("a marker ", e, ", where it is ", *d)
	}
	if d.first == (api.Entry{}) {
		d.first = e
	}
	if d.first != e {
		return fmt.Sprint("two markers of one transaction: ", d.first, ", ", e)
	}
	delete(d.parts, part)
	if len(d.parts) > 0 {
		return ""
	}
	if d.kind == api.Commit {
		w.commits++
	} else {
		w.aborts++
	}
	d.kind, d.first = 0, api.Entry{}
	return ""
}

func (w *witness) tick(n int) string {
	w.now += n
	for _, d := range w.deals {
		if len(d.parts) > 0 && d.kind == 0 && w.now-d.since >= w.wait {
			d.kind = api.Abort
			d.ver++
		}
	}
	return ""
}

// waiting: how many transactions are decided, and have parts without markers.
func (w *witness) waiting() int {
	n := 0
	for _, d := range w.deals {
		if d.kind != 0 {
			n++
		}
	}
	return n
}

// step: one drawn call, which the witness sees, unless it is refused.
func (w *witness) step(d *rand.Rand, c api.Coord) (api.Coord, string) {
	s, ver, part := []string{"ann", "bob", "cid"}[d.Intn(3)], 0, d.Intn(api.MaxParts)
	if known := w.deals[s]; known != nil {
		ver = known.ver - d.Intn(6)/5
	}
	var next api.Coord
	var refused api.Errno
	var wrong string
	switch d.Intn(12) {
	case 0:
		var pid, newer int
		if next, pid, newer, refused = Init(c, s); refused == api.OK {
			wrong = w.init(s, pid, newer)
		}
	case 1, 2, 3, 4:
		if next, refused = Add(c, s, ver, part); refused == api.OK {
			wrong = w.add(s, ver, part)
		}
	case 5, 6:
		commit := d.Intn(3) > 0
		if next, refused = End(c, s, ver, commit); refused == api.OK {
			wrong = w.end(s, ver, commit)
		}
	case 7:
		n := d.Intn(4)
		if next, refused = Tick(c, n); refused == api.OK {
			wrong = w.tick(n)
		}
	default:
		next, wrong, refused = w.stepMark(d, c)
	}
	if refused != api.OK {
		return c, wrong
	}
	return next, wrong
}

func (w *witness) stepMark(d *rand.Rand, c api.Coord) (api.Coord, string, api.Errno) {
	n := d.Intn(3)
	s, part, e, refused := Next(c, n)
	if (refused == api.OK) != (n < w.waiting()) {
		return c, fmt.Sprint("Next of ", n, " is answered ", refused, ", where ", w.waiting(), " wait"), refused
	}
	if refused != api.OK {
		return c, "", refused
	}
	next, refused := Done(c, s, part)
	if refused != api.OK {
		return c, fmt.Sprint("Done of what Next told is refused: ", refused), refused
	}
	return next, w.mark(s, part, e), api.OK
}

// TestTransactions: what comes of all promises: all parts of a transaction get the same marker, once, of the
// producer's newest version, and a Commit just where that was asked for in time.
func TestTransactions(t *testing.T) {
	d := rand.New(rand.NewSource(5))
	commits, aborts := 0, 0
	for range 500 {
		wait := 3 + d.Intn(12)
		c, _ := New(wait)
		w := witness{deals: map[string]*deal{}, pids: map[int]bool{}, wait: wait}
		for i := range 200 {
			next, wrong := w.step(d, c)
			if wrong != "" {
				t.Fatalf("step %d: %s: %v", i, wrong, c)
			}
			if Check(next) != api.OK {
				t.Fatalf("step %d: of %v came %v, which may not be", i, c, next)
			}
			c = next
		}
		commits, aborts = commits+w.commits, aborts+w.aborts
	}
	if commits < 1000 || aborts < 1000 {
		t.Errorf("%d were committed, and %d aborted: these walks tell too little", commits, aborts)
	}
}

// drawnTxn: any one, that mostly may be.
func drawnTxn(d *rand.Rand, at int) api.Txn {
	p := api.Txn{
		Name:  string(rune('a' + at + d.Intn(30)/29)),
		Pid:   1 + at,
		Ver:   d.Intn(3),
		State: api.Empty + d.Intn(4),
		Since: d.Intn(10),
		Done:  []int{0, api.Committed, api.Aborted}[d.Intn(3)],
	}
	if d.Intn(10) == 0 {
		p.Ver = top
	}
	if p.State == api.Empty && d.Intn(40) > 0 {
		return p
	}
	for part := range api.MaxParts {
		if d.Intn(2) == 0 || part == 3 && len(p.Parts) == 0 {
			p.Parts = append(p.Parts, part)
		}
	}
	return p
}

// drawnCoord: any one, that mostly may be, but need not have come of calls.
func drawnCoord(d *rand.Rand) api.Coord {
	c := api.Coord{Clock: 9 + d.Intn(5), Next: 8 + d.Intn(3), Wait: 1 + d.Intn(10)}
	for at := range d.Intn(api.MaxTxns) {
		c.Txns = append(c.Txns, drawnTxn(d, at))
	}
	switch d.Intn(20) {
	case 0:
		c.Clock = d.Intn(9)
	case 1:
		c.Next = d.Intn(8)
	case 2:
		c.Wait = d.Int()
	case 3:
		c.Clock = top - d.Intn(3)
	case 4:
		c.Next = top - d.Intn(2)
	}
	return c
}

// drawnCall of any kind.
func drawnCall(d *rand.Rand) answer {
	s, ver, part := string(rune('a'+d.Intn(9))), d.Intn(3), d.Intn(api.MaxParts)
	switch d.Intn(5) {
	case 0:
		return initOf(s)
	case 1:
		return add(s, ver, part)
	case 2:
		return end(s, ver, d.Intn(2) == 0)
	case 3:
		return done(s, part)
	}
	return tick(d.Intn(12))
}

// TestDrawn: P5.2, at drawn coordinators: calls refuse all that Check refuses, and what comes out may be.
func TestDrawn(t *testing.T) {
	d := rand.New(rand.NewSource(6))
	came, bad := 0, 0
	for range 50000 {
		c := drawnCoord(d)
		may := Check(c) == api.OK
		q, _, refused := drawnCall(d)(c)
		if !may {
			bad++
		}
		if !may && refused != api.ErrState {
			t.Fatalf("%v may not be, and is not refused", c)
		}
		if refused != api.OK {
			continue
		}
		came++
		if Check(q) != api.OK {
			t.Fatalf("of %v came %v, which may not be", c, q)
		}
	}
	if came < 5000 || bad < 5000 {
		t.Errorf("%d came, and %d might not be: these draws tell too little", came, bad)
	}
}
