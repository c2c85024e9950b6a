package coord

import (
	"fmt"
	"math"
	"slices"
	"strconv"
	"strings"
	"testing"

	"tailrace/api"
)

const top = api.MaxNumber

// Places of the producers in the middle of a coordinator's life.
const (
	ann = iota // Empty, and never ended one
	bob        // Ongoing
	cid        // Committed
	dot        // Aborted
	eve        // Empty, and committed the last one
	fay        // Empty, and aborted the last one
	guy        // Ongoing, for as long as may be
)

// middle of a coordinator's life: producers in all states, and room for one more.
func middle() api.Coord {
	return api.Coord{
		Clock: 50,
		Next:  9,
		Wait:  10,
		Txns: []api.Txn{
			{Name: "ann", Pid: 1, Ver: 0, State: api.Empty},
			{Name: "bob", Pid: 4, Ver: 2, State: api.Ongoing, Parts: []int{1, 3}, Since: 45, Done: api.Committed},
			{Name: "cid", Pid: 2, Ver: 5, State: api.Committed, Parts: []int{0, 2}, Since: 20, Done: api.Aborted},
			{Name: "dot", Pid: 8, Ver: 1, State: api.Aborted, Parts: []int{3}, Since: 49},
			{Name: "eve", Pid: 5, Ver: 7, State: api.Empty, Since: 30, Done: api.Committed},
			{Name: "fay", Pid: 6, Ver: 3, State: api.Empty, Since: 31, Done: api.Aborted},
			{Name: "guy", Pid: 3, Ver: 0, State: api.Ongoing, Parts: []int{0}, Since: 41},
		},
	}
}

// with: that coordinator, but for a change.
func with(change func(c *api.Coord)) api.Coord {
	c := middle()
	change(&c)
	return c
}

// full: there are as many producers as may be.
func full(c *api.Coord) {
	c.Txns = append(c.Txns, api.Txn{Name: "hal", Pid: 7, State: api.Empty})
}

// told: a coordinator as one text; lists without elements are alike in it.
func told(c api.Coord) string { return fmt.Sprint(c) }

// answer of a call: a coordinator, two numbers (0, if it tells none) and an error.
type answer func(api.Coord) (api.Coord, [2]int, api.Errno)

func initOf(s string) answer {
	return func(c api.Coord) (api.Coord, [2]int, api.Errno) {
		d, pid, ver, refused := Init(c, s)
		return d, [2]int{pid, ver}, refused
	}
}

func add(s string, ver, part int) answer {
	return func(c api.Coord) (api.Coord, [2]int, api.Errno) {
		d, refused := Add(c, s, ver, part)
		return d, [2]int{}, refused
	}
}

func end(s string, ver int, commit bool) answer {
	return func(c api.Coord) (api.Coord, [2]int, api.Errno) {
		d, refused := End(c, s, ver, commit)
		return d, [2]int{}, refused
	}
}

func done(s string, part int) answer {
	return func(c api.Coord) (api.Coord, [2]int, api.Errno) {
		d, refused := Done(c, s, part)
		return d, [2]int{}, refused
	}
}

func tick(n int) answer {
	return func(c api.Coord) (api.Coord, [2]int, api.Errno) {
		d, refused := Tick(c, n)
		return d, [2]int{}, refused
	}
}

// next as an answer that is refused: if it tells anything but that, the coordinator comes back.
func next(n int) answer {
	return func(c api.Coord) (api.Coord, [2]int, api.Errno) {
		s, part, e, refused := Next(c, n)
		if s != "" || e != (api.Entry{}) {
			return c, [2]int{part}, refused
		}
		return api.Coord{}, [2]int{part}, refused
	}
}

// doneRow: what a call does to a coordinator, and what it tells.
type doneRow struct {
	name   string
	was    api.Coord
	call   answer
	change func(c *api.Coord)
	tells  [2]int
}

func runDone(t *testing.T, rows []doneRow) {
	t.Helper()
	for _, r := range rows {
		if refused := Check(r.was); refused != api.OK {
			t.Fatalf("%s: this coordinator may not be: %v", r.name, r.was)
		}
		before := told(r.was)
		got, tells, refused := r.call(r.was)
		if told(r.was) != before {
			t.Errorf("%s: what was handed in was changed: %v, was %s", r.name, r.was, before)
		}
		want := Copy(r.was)
		if r.change != nil {
			r.change(&want)
		}
		if refused != api.OK || tells != r.tells || told(got) != told(want) {
			t.Errorf("%s: %v, %v, %v, want %v, %v", r.name, got, tells, refused, want, r.tells)
		}
		if Check(got) != api.OK {
			t.Errorf("%s: what came out may not be: %v", r.name, got)
		}
	}
}

// refusedRow: what a call refuses.
type refusedRow struct {
	name string
	was  api.Coord
	call answer
	want api.Errno
}

func runRefused(t *testing.T, rows []refusedRow) {
	t.Helper()
	for _, r := range rows {
		before := told(r.was)
		got, tells, refused := r.call(r.was)
		if refused != r.want || tells != [2]int{} || told(got) != told(api.Coord{}) {
			t.Errorf("%s: %v, %v, %v, want %v", r.name, got, tells, refused, r.want)
		}
		if told(r.was) != before {
			t.Errorf("%s: what was handed in was changed: %v, was %s", r.name, r.was, before)
		}
	}
}

// TestNew: P5.1, nothing is known, for every wait.
func TestNew(t *testing.T) {
	for wait := 1; wait <= api.MaxWait; wait++ {
		want := api.Coord{Clock: 0, Next: 1, Wait: wait}
		if got, refused := New(wait); refused != api.OK || told(got) != told(want) || Check(got) != api.OK {
			t.Errorf("New(%d) = %v, %v, want %v", wait, got, refused, want)
		}
	}
	for _, wait := range []int{math.MinInt, -api.MaxWait, -1, 0, api.MaxWait + 1, top, math.MaxInt} {
		if got, refused := New(wait); refused != api.ErrRange || told(got) != told(api.Coord{}) {
			t.Errorf("New(%d) = %v, %v, want %v", wait, got, refused, api.ErrRange)
		}
	}
}

// goodNames and badNames: P5.1, at the edges.
func goodNames() []string { return []string{"a", "z", "m", "az", "zzzzzzzz", "abcdefgh"} }

func badNames() []string {
	bad := []string{"", "aaaaaaaaa", "Ann", "A", "Z", "a b", " a", "a ", "a1", "a\x00", "é", "aé", "ａ", "a\xff", "\xe9", "a-b", "abcdefgH", "Abcdefgh", strings.Repeat("a", 1000)}
	// Every byte but the small letters, among small letters.
	for b := range 256 {
		if b < 'a' || b > 'z' {
			bad = append(bad, string([]byte{'a', byte(b), 'z'}))
		}
	}
	return bad
}

// TestNames: P5.1 and P5.2, what is a name to Check, and to all that are told one.
func TestNames(t *testing.T) {
	var rows []refusedRow
	for _, s := range goodNames() {
		c := with(func(c *api.Coord) { c.Txns[bob].Name = s })
		if refused := Check(c); refused != api.OK {
			t.Errorf("the name %q: Check = %v, want OK", s, refused)
		}
		if _, pid, _, refused := Init(middle(), s); refused != api.OK || pid != 9 {
			t.Errorf("Init of %q: %d, %v", s, pid, refused)
		}
		rows = append(rows,
			refusedRow{"Add for " + s, middle(), add(s, 0, -1), api.ErrNone},
			refusedRow{"End for " + s, middle(), end(s, 0, true), api.ErrNone},
			refusedRow{"Done for " + s, middle(), done(s, -1), api.ErrNone})
	}
	for _, s := range badNames() {
		c := with(func(c *api.Coord) { c.Txns[bob].Name = s })
		if refused := Check(c); refused != api.ErrState {
			t.Errorf("the name %q: Check = %v, want %v", s, refused, api.ErrState)
		}
		for call, do := range callsFor(s) {
			rows = append(rows,
				refusedRow{fmt.Sprintf("%s, %q", call, s), middle(), do, api.ErrForm},
				refusedRow{fmt.Sprintf("%s, %q, where all is full", call, s), with(full), do, api.ErrForm})
		}
	}
	runRefused(t, rows)
}

// callsFor a producer: all that are told a name, with what else they are told, be it right or wrong.
func callsFor(s string) map[string]answer {
	return map[string]answer{
		"Init":               initOf(s),
		"Add":                add(s, 0, 0),
		"Add of no part":     add(s, 0, -1),
		"Add, of no version": add(s, -1, api.MaxParts),
		"End":                end(s, 0, true),
		"End, of no version": end(s, -1, false),
		"Done":               done(s, 0),
		"Done of no part":    done(s, -1),
	}
}

// TestCheckMayBe: P5.2, coordinators that may be, at the edges of what may be.
func TestCheckMayBe(t *testing.T) {
	for name, c := range map[string]api.Coord{
		"the middle":                  middle(),
		"nobody is known":             {Next: 1, Wait: 1},
		"as many as may be":           with(full),
		"the last Clock":              with(func(c *api.Coord) { c.Clock = top }),
		"the Clock is the last Since": with(func(c *api.Coord) { c.Clock = 49 }),
		"the Clock is 0":              with(func(c *api.Coord) { c.Clock = 0; setSince(c, 0) }),
		"each Since is the Clock":     with(func(c *api.Coord) { setSince(c, 50) }),
		"the last Next":               with(func(c *api.Coord) { c.Next = top }),
		"the last Pid":                with(func(c *api.Coord) { c.Next, c.Txns[eve].Pid = top, top-1 }),
		"the last Wait":               with(func(c *api.Coord) { c.Wait = api.MaxWait }),
		"the first Wait":              with(func(c *api.Coord) { c.Wait = 1 }),
		"the last Ver":                with(func(c *api.Coord) { c.Txns[bob].Ver = top }),
		"all parts":                   with(func(c *api.Coord) { c.Txns[bob].Parts = []int{0, 1, 2, 3} }),
		"the last part alone":         with(func(c *api.Coord) { c.Txns[bob].Parts = []int{3} }),
		"no parts, in a list":         with(func(c *api.Coord) { c.Txns[ann].Parts = []int{} }),
		"ended never, and ongoing":    with(func(c *api.Coord) { c.Txns[bob].Done = 0 }),
		"aborted, and aborted last":   with(func(c *api.Coord) { c.Txns[dot].Done = api.Aborted }),
	} {
		if refused := Check(c); refused != api.OK {
			t.Errorf("%s: Check(%v) = %v, want OK", name, c, refused)
		}
	}
}

func setSince(c *api.Coord, since int) {
	for i := range c.Txns {
		c.Txns[i].Since = since
	}
}

// badCoords: coordinators that may not be, each for one reason alone, where that can be.
func badCoords() map[string]api.Coord {
	bad := map[string]api.Coord{
		"nothing":                {},
		"no Next":                {Wait: 1},
		"no Wait":                {Next: 1},
		"the Clock is below 0":   {Clock: -1, Next: 1, Wait: 1},
		"the Clock is too great": with(func(c *api.Coord) { c.Clock = top + 1 }),
		"Next is too great":      with(func(c *api.Coord) { c.Next = top + 1 }),
		"Next is below 0":        {Next: -1, Wait: 1},
		"Wait is too great":      with(func(c *api.Coord) { c.Wait = api.MaxWait + 1 }),
		"Wait is 0":              with(func(c *api.Coord) { c.Wait = 0 }),
		"Wait is below 0":        with(func(c *api.Coord) { c.Wait = -1 }),
		"one too many": with(func(c *api.Coord) {
			full(c)
			c.Next++
			c.Txns = append(c.Txns, api.Txn{Name: "ike", Pid: 9, State: api.Empty})
		}),
		"a Pid is Next":               with(func(c *api.Coord) { c.Next = 8 }),
		"a Pid is 0":                  with(func(c *api.Coord) { c.Txns[eve].Pid = 0 }),
		"a Pid is below 0":            with(func(c *api.Coord) { c.Txns[eve].Pid = -1 }),
		"a Ver is below 0":            with(func(c *api.Coord) { c.Txns[eve].Ver = -1 }),
		"a Ver is too great":          with(func(c *api.Coord) { c.Txns[bob].Ver = top + 1 }),
		"there is no state 0":         with(func(c *api.Coord) { c.Txns[bob].State = 0 }),
		"there is no state 0, empty":  with(func(c *api.Coord) { c.Txns[ann].State = 0 }),
		"there is no state 5":         with(func(c *api.Coord) { c.Txns[bob].State = 5 }),
		"there is no state 5, empty":  with(func(c *api.Coord) { c.Txns[ann].State = 5 }),
		"there is no state -1":        with(func(c *api.Coord) { c.Txns[dot].State = -1 }),
		"Since is above the Clock":    with(func(c *api.Coord) { c.Txns[bob].Since = 51 }),
		"an empty one's is":           with(func(c *api.Coord) { c.Txns[ann].Since = 51 }),
		"the Clock is below a Since":  with(func(c *api.Coord) { c.Clock = 48 }),
		"Since is below 0":            with(func(c *api.Coord) { c.Txns[bob].Since = -1 }),
		"Done is Empty":               with(func(c *api.Coord) { c.Txns[ann].Done = api.Empty }),
		"Done is Ongoing":             with(func(c *api.Coord) { c.Txns[bob].Done = api.Ongoing }),
		"Done is 5":                   with(func(c *api.Coord) { c.Txns[bob].Done = 5 }),
		"Done is below 0":             with(func(c *api.Coord) { c.Txns[bob].Done = -1 }),
		"a part twice":                with(func(c *api.Coord) { c.Txns[bob].Parts = []int{1, 1} }),
		"the last part twice":         with(func(c *api.Coord) { c.Txns[bob].Parts = []int{1, 3, 3} }),
		"parts fall":                  with(func(c *api.Coord) { c.Txns[bob].Parts = []int{3, 1} }),
		"parts fall in the end":       with(func(c *api.Coord) { c.Txns[bob].Parts = []int{0, 2, 1} }),
		"a part below 0":              with(func(c *api.Coord) { c.Txns[bob].Parts = []int{-1, 1} }),
		"a part too great":            with(func(c *api.Coord) { c.Txns[bob].Parts = []int{1, 4} }),
		"that part alone":             with(func(c *api.Coord) { c.Txns[bob].Parts = []int{4} }),
		"empty, with a part":          with(func(c *api.Coord) { c.Txns[ann].Parts = []int{1} }),
		"ongoing, without parts":      with(func(c *api.Coord) { c.Txns[bob].Parts = nil }),
		"committed, without parts":    with(func(c *api.Coord) { c.Txns[cid].Parts = []int{} }),
		"aborted, without parts":      with(func(c *api.Coord) { c.Txns[dot].Parts = nil }),
		"two of one name":             with(func(c *api.Coord) { c.Txns[guy].Name = "ann" }),
		"two neighbours of one name":  with(func(c *api.Coord) { c.Txns[guy].Name = "fay" }),
		"two of one Pid":              with(func(c *api.Coord) { c.Txns[guy].Pid = 1 }),
		"two neighbours of one Pid":   with(func(c *api.Coord) { c.Txns[bob].Pid = 1 }),
		"no name":                     with(func(c *api.Coord) { c.Txns[guy].Name = "" }),
		"a name with a great letter":  with(func(c *api.Coord) { c.Txns[ann].Name = "Ann" }),
		"a name too long":             with(func(c *api.Coord) { c.Txns[ann].Name = "annannann" }),
		"very many":                   {Next: top, Wait: 1, Txns: slices.Repeat([]api.Txn{{Name: "ann", Pid: 1, State: api.Empty}}, 100)},
		"very many parts":             with(func(c *api.Coord) { c.Txns[bob].Parts = slices.Repeat([]int{0, 1, 2, 3}, 100) }),
		"a producer that is nothing":  with(func(c *api.Coord) { c.Txns = append(c.Txns, api.Txn{}) }),
		"a producer that is zero all": {Next: 1, Wait: 1, Txns: make([]api.Txn, 1)},
	}
	for _, n := range []int{math.MinInt, math.MaxInt} {
		s := " is " + strconv.Itoa(n)
		bad["Clock"+s] = with(func(c *api.Coord) { c.Clock = n })
		bad["Next"+s] = with(func(c *api.Coord) { c.Next = n })
		bad["Wait"+s] = with(func(c *api.Coord) { c.Wait = n })
		bad["Pid"+s] = with(func(c *api.Coord) { c.Txns[eve].Pid = n })
		bad["Ver"+s] = with(func(c *api.Coord) { c.Txns[eve].Ver = n })
		bad["State"+s] = with(func(c *api.Coord) { c.Txns[bob].State = n })
		bad["Since"+s] = with(func(c *api.Coord) { c.Txns[bob].Since = n })
		bad["Done"+s] = with(func(c *api.Coord) { c.Txns[bob].Done = n })
		bad["a part"+s] = with(func(c *api.Coord) { c.Txns[bob].Parts[1] = n })
		bad["the only part"+s] = with(func(c *api.Coord) { c.Txns[dot].Parts[0] = n })
		bad["a part behind one that"+s] = with(func(c *api.Coord) { c.Txns[bob].Parts[0] = n })
	}
	return bad
}

// TestCheckRefuses: P5.2, coordinators that may not be.
func TestCheckRefuses(t *testing.T) {
	for name, c := range badCoords() {
		if refused := Check(c); refused != api.ErrState {
			t.Errorf("%s: Check(%v) = %v, want %v", name, c, refused, api.ErrState)
		}
	}
}

// TestAllRefuse: P5.2, what Check refuses is refused by all, ahead of all else, wrong names, too.
func TestAllRefuse(t *testing.T) {
	var rows []refusedRow
	for name, c := range badCoords() {
		for _, s := range []string{"ann", "bob", "cid", "new", "", "Ann", "annannann"} {
			for call, do := range callsFor(s) {
				rows = append(rows, refusedRow{fmt.Sprintf("%s: %s, %q", name, call, s), c, do, api.ErrState})
			}
		}
		for _, n := range []int{math.MinInt, -1, 0, 1, 2, api.MaxTick + 1, math.MaxInt} {
			rows = append(rows,
				refusedRow{fmt.Sprint(name, ": Next of ", n), c, next(n), api.ErrState},
				refusedRow{fmt.Sprint(name, ": Tick of ", n), c, tick(n), api.ErrState})
		}
	}
	runRefused(t, rows)
}

// TestVersions: P5.2, who is not known, or has another version, ahead of what else is wrong.
func TestVersions(t *testing.T) {
	var rows []refusedRow
	for _, part := range []int{math.MinInt, -1, 0, 3, 4, math.MaxInt} {
		for _, ver := range []int{math.MinInt, -1, 0, 1, top, math.MaxInt} {
			rows = append(rows, refusedRow{fmt.Sprint("Add of ", ver, part, " for one that is not known"), middle(), add("hal", ver, part), api.ErrNone})
		}
	}
	for _, commit := range []bool{true, false} {
		for _, ver := range []int{math.MinInt, -1, 0, 1, top, math.MaxInt} {
			rows = append(rows, refusedRow{fmt.Sprint("End of ", ver, commit, " for one that is not known"), middle(), end("hal", ver, commit), api.ErrNone})
		}
	}
	for _, p := range middle().Txns {
		for _, ver := range []int{math.MinInt, -1, p.Ver - 1, p.Ver + 1, p.Ver + 2, p.Pid + 100, top, math.MaxInt} {
			s := fmt.Sprint(" for ", p.Name, " of ", ver)
			for _, part := range []int{math.MinInt, -1, 0, 3, 4, math.MaxInt} {
				rows = append(rows, refusedRow{fmt.Sprint("Add of ", part, s), middle(), add(p.Name, ver, part), api.ErrFence})
			}
			rows = append(rows,
				refusedRow{"End: commit" + s, middle(), end(p.Name, ver, true), api.ErrFence},
				refusedRow{"End: abort" + s, middle(), end(p.Name, ver, false), api.ErrFence})
		}
	}
	rows = append(rows,
		refusedRow{"Add, where nobody is known", api.Coord{Next: 1, Wait: 1}, add("ann", 0, 0), api.ErrNone},
		refusedRow{"End, where nobody is known", api.Coord{Next: 1, Wait: 1}, end("ann", 0, true), api.ErrNone},
		refusedRow{"a name that another one begins with", middle(), add("an", 0, 0), api.ErrNone},
		refusedRow{"a name that begins with another one", middle(), add("anna", 0, 0), api.ErrNone})
	runRefused(t, rows)
}

// TestCopy: P5.2, the same coordinator, be it one that may be or not.
func TestCopy(t *testing.T) {
	all := badCoords()
	all["the middle"] = middle()
	all["as many as may be"] = with(full)
	all["nobody is known"] = api.Coord{Next: 1, Wait: 1}
	for name, c := range all {
		before := told(c)
		if got := Copy(c); told(got) != before || told(c) != before {
			t.Errorf("%s: Copy = %v, want %s", name, got, before)
		}
	}
}
