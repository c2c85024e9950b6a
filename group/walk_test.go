package group

import (
	"fmt"
	"math/rand"
	"slices"
	"testing"

	"tailrace/api"
)

// calls that a group in the middle of its life lets come, and Copy.
func calls() map[string]answer {
	return map[string]answer{
		"Copy":                       func(g api.Group) (api.Group, api.Errno) { return Copy(g), api.OK },
		"New":                        func(api.Group) (api.Group, api.Errno) { return New(5) },
		"Join":                       join("eve", 4),
		"Join, without parts":        join("abe", 0),
		"Leave of the first one":     leave("dan", 4),
		"Leave of the last one":      leave("bob", 1),
		"Beat":                       beat("cid", 7),
		"Store between others":       store("dan", 7, 1, 5),
		"Store behind others":        store("ann", 7, 3, 5),
		"Store again":                store("cid", 7, 2, 5),
		"Tick":                       tick(0, 4),
		"Tick, with one silent":      tick(1, 4),
		"Tick, with all silent":      tick(100, 4),
		"Tick, with all but one out": tick(9, 2),
	}
}

// roomy: a group with spare room in all its lists, which the calls above do not refuse.
func roomy() api.Group {
	g := middle()
	g.Members = slices.Grow(g.Members, 5)
	g.Offsets = slices.Grow(g.Offsets, 5)
	for i := range g.Members {
		g.Members[i].Parts = slices.Grow(g.Members[i].Parts, 5)
	}
	return g
}

func fill[T any](l []T, x T) {
	l = l[:cap(l)]
	for i := range l {
		l[i] = x
	}
}

// spoil: write over all lists of a group, to the end of their spare room.
func spoil(g api.Group, mark int) {
	for _, m := range g.Members {
		fill(m.Parts, mark)
	}
	// The members come last, since their parts are found by them.
	fill(g.Offsets, api.Offset{Part: mark, At: mark})
	fill(g.Members, api.Member{Name: "spoilt", Heard: mark})
}

// room: all that a group's lists hold, spare room, too.
func room(g api.Group) string {
	g.Members = slices.Clone(g.Members[:cap(g.Members)])
	for i, m := range g.Members {
		g.Members[i].Parts = m.Parts[:cap(m.Parts)]
	}
	g.Offsets = g.Offsets[:cap(g.Offsets)]
	return told(g)
}

// TestMemory: nothing that is handed in is changed or kept, spare room neither, and what comes out is new.
func TestMemory(t *testing.T) {
	for name, call := range calls() {
		g := roomy()
		before := room(g)
		one, refused := call(g)
		two, _ := call(g)
		if refused != api.OK {
			t.Fatalf("%s: %v", name, refused)
		}
		if room(g) != before {
			t.Errorf("%s changed what was handed in", name)
		}
		want, whole := told(one), room(two)
		spoil(g, 77)
		if told(one) != want || room(two) != whole {
			t.Errorf("%s kept what was handed in", name)
		}
		before = room(g)
		spoil(one, 88)
		if room(two) != whole {
			t.Errorf("two answers of %s share memory", name)
		}
		if room(g) != before {
			t.Errorf("an answer of %s shares spare room with what was handed in", name)
		}
	}
}

// TestApart: no two lists of one answer share memory, even where those that are handed in do.
func TestApart(t *testing.T) {
	shared := make([]int, 4, 8)
	copy(shared, []int{0, 1, 2, 3})
	for name, call := range calls() {
		g := roomy()
		for i := range g.Members {
			g.Members[i].Parts = shared
		}
		got, refused := call(g)
		if refused != api.OK {
			t.Fatalf("%s: %v", name, refused)
		}
		for i := range got.Members {
			for j := range got.Members {
				if j == i {
					continue
				}
				other := got.Members[j].Parts
				before := fmt.Sprint(other[:cap(other)])
				fill(got.Members[i].Parts, 99+i)
				if fmt.Sprint(other[:cap(other)]) != before {
					t.Errorf("%s: the parts of %d and %d share memory", name, i, j)
				}
			}
		}
	}
}

// witness of a group's life: it goes by what calls answer, and works the rest out by hand.
type witness struct {
	wait, now, gen int
	order          []string // the members, as they came
	heard          map[string]int
	own            map[string][]int
	read           map[int]int
	outs, stores   int
}

func (w *witness) deal(parts int) {
	w.gen++
	w.own = map[string][]int{}
	for i, own := range dealt(w.order, parts) {
		w.own[w.order[i]] = own
	}
}

func (w *witness) drop(s string) {
	w.order = slices.DeleteFunc(w.order, func(other string) bool { return other == s })
	delete(w.heard, s)
}

func (w *witness) join(s string, parts int) api.Errno {
	switch {
	case slices.Contains(w.order, s):
		return api.ErrTwice
	case len(w.order) == api.MaxMembers:
		return api.ErrFull
	}
	w.order = append(w.order, s)
	w.heard[s] = w.now
	w.deal(parts)
	return api.OK
}

func (w *witness) leave(s string, parts int) api.Errno {
	if !slices.Contains(w.order, s) {
		return api.ErrNone
	}
	w.drop(s)
	w.deal(parts)
	return api.OK
}

// fence: what is refused to who is no member of this generation.
func (w *witness) fence(s string, gen int) api.Errno {
	switch {
	case !slices.Contains(w.order, s):
		return api.ErrNone
	case gen != w.gen:
		return api.ErrFence
	}
	return api.OK
}

func (w *witness) beat(s string, gen int) api.Errno {
	refused := w.fence(s, gen)
	if refused == api.OK {
		w.heard[s] = w.now
	}
	return refused
}

func (w *witness) store(s string, gen, part, at int) api.Errno {
	refused := w.fence(s, gen)
	switch {
	case refused != api.OK:
		return refused
	case at < 0 || at > api.MaxEntries:
		return api.ErrRange
	case !slices.Contains(w.own[s], part):
		return api.ErrState
	}
	w.read[part] = at
	w.stores++
	return api.OK
}

func (w *witness) tick(n, parts int) api.Errno {
	w.now += n
	before := len(w.order)
	for _, s := range slices.Clone(w.order) {
		if w.now >= w.heard[s]+w.wait {
			w.drop(s)
			w.outs++
		}
	}
	if len(w.order) < before {
		w.deal(parts)
	}
	return api.OK
}

// step: one drawn call, and what the witness says that it should be answered.
func (w *witness) step(d *rand.Rand, g api.Group, parts int) (api.Group, api.Errno, api.Errno) {
	s := []string{"ann", "bob", "cid", "dan", "eve", "fay", "guy", "hal"}[d.Intn(8)]
	gen := w.gen - d.Intn(6)/5
	var next api.Group
	var got, want api.Errno
	switch d.Intn(9) {
	case 0, 1:
		next, got = Join(g, s, parts)
		want = w.join(s, parts)
	case 2:
		next, got = Leave(g, s, parts)
		want = w.leave(s, parts)
	case 3, 4, 5:
		next, got = Beat(g, s, gen)
		want = w.beat(s, gen)
	case 6, 7:
		part, at := d.Intn(api.MaxParts), d.Intn(api.MaxEntries+5)-2
		next, got = Store(g, s, gen, part, at)
		want = w.store(s, gen, part, at)
	default:
		n := d.Intn(4)
		next, got = Tick(g, n, parts)
		want = w.tick(n, parts)
	}
	if got != api.OK {
		return g, got, want
	}
	return next, got, want
}

// wrong: what of a group is not as the witness knows it; empty: nothing.
func (w *witness) wrong(g api.Group) string {
	if Check(g) != api.OK || g.Clock != w.now || g.Gen != w.gen || g.Wait != w.wait {
		return fmt.Sprint("it may not be, or is not of now: ", w.now, " ", w.gen)
	}
	var order []string
	for _, m := range g.Members {
		order = append(order, m.Name)
		if m.Heard != w.heard[m.Name] || !slices.Equal(m.Parts, w.own[m.Name]) {
			return fmt.Sprint(m, " was heard of at ", w.heard[m.Name], ", and has ", w.own[m.Name])
		}
		for part := range api.MaxParts {
			n, refused := Where(g, m.Name, part)
			if slices.Contains(m.Parts, part) != (refused == api.OK) || refused == api.OK && n != w.read[part] {
				return fmt.Sprint("Where of ", m.Name, " and ", part, ": ", n, ", ", refused, ", and it is ", w.read[part])
			}
		}
	}
	if !slices.Equal(order, w.order) || len(g.Offsets) != len(w.read) {
		return fmt.Sprint("the members are ", w.order, ", and it is read: ", w.read)
	}
	return ""
}

// shares: does each part belong to just one member, if there is one, and do no two differ by more than one part?
func shares(g api.Group, parts int) bool {
	if len(g.Members) == 0 {
		return true
	}
	owners := make([]int, parts)
	least, most := parts, 0
	for _, m := range g.Members {
		least, most = min(least, len(m.Parts)), max(most, len(m.Parts))
		for _, part := range m.Parts {
			if part >= parts {
				return false
			}
			owners[part]++
		}
	}
	return most-least <= 1 && !slices.ContainsFunc(owners, func(n int) bool { return n != 1 })
}

// TestGroups: what comes of all promises: each part has one reader, whoever comes and goes, and what was stored is where the next one goes on.
func TestGroups(t *testing.T) {
	d := rand.New(rand.NewSource(6))
	outs, stores := 0, 0
	for range 500 {
		wait, parts := 3+d.Intn(12), d.Intn(api.MaxParts+1)
		g, _ := New(wait)
		w := witness{wait: wait, heard: map[string]int{}, read: map[int]int{}}
		for i := range 200 {
			next, got, want := w.step(d, g, parts)
			if got != want {
				t.Fatalf("step %d: refused %v, want %v: %v", i, got, want, g)
			}
			if wrong := w.wrong(next); wrong != "" || !shares(next, parts) {
				t.Fatalf("step %d: of %v came %v, with %d parts: %s", i, g, next, parts, wrong)
			}
			g = next
		}
		outs, stores = outs+w.outs, stores+w.stores
	}
	if outs < 1000 || stores < 1000 {
		t.Errorf("%d went out, and %d times it was stored: these walks tell too little", outs, stores)
	}
}

// drawnGroup: any one, that mostly may be, but need not have come of calls.
func drawnGroup(d *rand.Rand) api.Group {
	g := api.Group{Clock: 9 + d.Intn(5), Wait: 1 + d.Intn(10), Gen: d.Intn(3)}
	for at := range d.Intn(api.MaxMembers + 1) {
		m := api.Member{Name: string(rune('a' + at + d.Intn(30)/29)), Heard: d.Intn(10)}
		for part := range api.MaxParts + d.Intn(20)/19 {
			if d.Intn(2) == 0 {
				m.Parts = append(m.Parts, part)
			}
		}
		g.Members = append(g.Members, m)
	}
	for part := range api.MaxParts + d.Intn(20)/19 {
		if d.Intn(2) == 0 {
			g.Offsets = append(g.Offsets, api.Offset{Part: part, At: d.Intn(api.MaxEntries + 4)})
		}
	}
	switch d.Intn(12) {
	case 0:
		g.Clock = d.Intn(9)
	case 1:
		g.Wait = d.Int()
	case 2:
		g.Clock = top - d.Intn(3)
	case 3:
		g.Gen = top - d.Intn(2)
	}
	return g
}

// drawnCall of any kind.
func drawnCall(d *rand.Rand) answer {
	s, gen, parts := string(rune('a'+d.Intn(8))), d.Intn(3), d.Intn(api.MaxParts+1)
	switch d.Intn(5) {
	case 0:
		return join(s, parts)
	case 1:
		return leave(s, parts)
	case 2:
		return beat(s, gen)
	case 3:
		return store(s, gen, d.Intn(api.MaxParts), d.Intn(api.MaxEntries+1))
	}
	return tick(d.Intn(12), parts)
}

// TestDrawn: P6.3, at drawn groups: calls refuse all that Check refuses, and what comes out may be.
func TestDrawn(t *testing.T) {
	d := rand.New(rand.NewSource(7))
	came, bad := 0, 0
	for range 50000 {
		g := drawnGroup(d)
		may := Check(g) == api.OK
		q, refused := drawnCall(d)(g)
		if !may {
			bad++
		}
		if !may && refused != api.ErrState {
			t.Fatalf("%v may not be, and is not refused", g)
		}
		if refused != api.OK {
			continue
		}
		came++
		if Check(q) != api.OK {
			t.Fatalf("of %v came %v, which may not be", g, q)
		}
	}
	if came < 5000 || bad < 5000 {
		t.Errorf("%d came, and %d might not be: these draws tell too little", came, bad)
	}
}
