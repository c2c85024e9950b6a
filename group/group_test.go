package group

import (
	"fmt"
	"math"
	"slices"
	"strconv"
	"strings"
	"testing"

	"tailrace/api"
)

const top = api.MaxNumber

// Places of the members in the middle of a group's life.
const (
	dan = iota // heard of now
	ann        // has two parts
	cid        // silent for as long as may be
	bob        // has no parts
)

// middle of a group's life: members that do not stand in their order, and room for two more.
func middle() api.Group {
	return api.Group{
		Clock: 50,
		Wait:  10,
		Gen:   7,
		Members: []api.Member{
			{Name: "dan", Heard: 50, Parts: []int{1}},
			{Name: "ann", Heard: 45, Parts: []int{0, 3}},
			{Name: "cid", Heard: 41, Parts: []int{2}},
			{Name: "bob", Heard: 48},
		},
		Offsets: []api.Offset{{Part: 0, At: 17}, {Part: 2, At: api.MaxEntries}},
	}
}

// with: that group, but for a change.
func with(change func(g *api.Group)) api.Group {
	g := middle()
	change(&g)
	return g
}

// full: there are as many members as may be.
func full(g *api.Group) {
	g.Members = append(g.Members, api.Member{Name: "eve", Heard: 50}, api.Member{Name: "fay", Heard: 49})
}

// lastGen: there is no generation to come.
func lastGen(g *api.Group) { g.Gen = top }

func setHeard(g *api.Group, heard int) {
	for i := range g.Members {
		g.Members[i].Heard = heard
	}
}

// told: a group as one text; lists without elements are alike in it.
func told(g api.Group) string { return fmt.Sprint(g) }

// answer of a call: a group and an error.
type answer func(api.Group) (api.Group, api.Errno)

func join(s string, parts int) answer {
	return func(g api.Group) (api.Group, api.Errno) { return Join(g, s, parts) }
}

func leave(s string, parts int) answer {
	return func(g api.Group) (api.Group, api.Errno) { return Leave(g, s, parts) }
}

func beat(s string, gen int) answer {
	return func(g api.Group) (api.Group, api.Errno) { return Beat(g, s, gen) }
}

func store(s string, gen, part, at int) answer {
	return func(g api.Group) (api.Group, api.Errno) { return Store(g, s, gen, part, at) }
}

func tick(n, parts int) answer {
	return func(g api.Group) (api.Group, api.Errno) { return Tick(g, n, parts) }
}

// where as an answer that is refused: if it tells anything but that, the group comes back.
func where(s string, part int) answer {
	return func(g api.Group) (api.Group, api.Errno) {
		n, refused := Where(g, s, part)
		if n != 0 {
			return g, refused
		}
		return api.Group{}, refused
	}
}

// doneRow: what a call does to a group.
type doneRow struct {
	name   string
	was    api.Group
	call   answer
	change func(g *api.Group)
}

func runDone(t *testing.T, rows []doneRow) {
	t.Helper()
	for _, r := range rows {
		if refused := Check(r.was); refused != api.OK {
			t.Fatalf("%s: this group may not be: %v", r.name, r.was)
		}
		before := told(r.was)
		got, refused := r.call(r.was)
		if told(r.was) != before {
			t.Errorf("%s: what was handed in was changed: %v, was %s", r.name, r.was, before)
		}
		want := Copy(r.was)
		if r.change != nil {
			r.change(&want)
		}
		if refused != api.OK || told(got) != told(want) {
			t.Errorf("%s: %v, %v, want %v", r.name, got, refused, want)
		}
		if Check(got) != api.OK {
			t.Errorf("%s: what came out may not be: %v", r.name, got)
		}
	}
}

// refusedRow: what a call refuses.
type refusedRow struct {
	name string
	was  api.Group
	call answer
	want api.Errno
}

func runRefused(t *testing.T, rows []refusedRow) {
	t.Helper()
	for _, r := range rows {
		before := told(r.was)
		got, refused := r.call(r.was)
		if refused != r.want || told(got) != told(api.Group{}) {
			t.Errorf("%s: %v, %v, want %v", r.name, got, refused, r.want)
		}
		if told(r.was) != before {
			t.Errorf("%s: what was handed in was changed: %v, was %s", r.name, r.was, before)
		}
	}
}

// TestNew: P6.1, no members, for every wait.
func TestNew(t *testing.T) {
	for wait := 1; wait <= api.MaxWait; wait++ {
		want := api.Group{Clock: 0, Wait: wait, Gen: 0}
		if got, refused := New(wait); refused != api.OK || told(got) != told(want) || Check(got) != api.OK {
			t.Errorf("New(%d) = %v, %v, want %v", wait, got, refused, want)
		}
	}
	for _, wait := range []int{math.MinInt, -api.MaxWait, -1, 0, api.MaxWait + 1, top, math.MaxInt} {
		if got, refused := New(wait); refused != api.ErrRange || told(got) != told(api.Group{}) {
			t.Errorf("New(%d) = %v, %v, want %v", wait, got, refused, api.ErrRange)
		}
	}
}

// goodNames and badNames: P5.1, at the edges. No good one is a member of the middle.
func goodNames() []string { return []string{"a", "z", "m", "az", "zzzzzzzz", "abcdefgh"} }

func badNames() []string {
	bad := []string{"", "aaaaaaaaa", "Ann", "A", "Z", "a b", " a", "a ", "a1", "a\x00", "é", "aé", "a\xff", "\xe9", "a-b", "abcdefgH", strings.Repeat("a", 1000)}
	// Every byte but the small letters, among small letters.
	for b := range 256 {
		if b < 'a' || b > 'z' {
			bad = append(bad, string([]byte{'a', byte(b), 'z'}))
		}
	}
	return bad
}

// callsFor a member: all that are told a name, with what else they are told, be it right or wrong.
func callsFor(s string) map[string]answer {
	return map[string]answer{
		"Join":                    join(s, 2),
		"Join, too few parts":     join(s, -1),
		"Join, too many parts":    join(s, api.MaxParts+1),
		"Leave":                   leave(s, 2),
		"Leave, too few parts":    leave(s, -1),
		"Leave, too many parts":   leave(s, api.MaxParts+1),
		"Beat":                    beat(s, 7),
		"Beat, no generation":     beat(s, -1),
		"Store":                   store(s, 7, 0, 5),
		"Store, no generation":    store(s, -1, 0, 5),
		"Store, no part":          store(s, 7, -1, 5),
		"Store, nowhere":          store(s, 7, 0, -1),
		"Store, all of it wrong":  store(s, math.MinInt, math.MaxInt, math.MaxInt),
		"Where":                   where(s, 0),
		"Where, too small a part": where(s, -1),
		"Where, too great a part": where(s, api.MaxParts),
	}
}

// TestNames: P6.3, what is a name to Check, and to all that are told one.
func TestNames(t *testing.T) {
	var rows []refusedRow
	for _, s := range goodNames() {
		if refused := Check(with(func(g *api.Group) { g.Members[ann].Name = s })); refused != api.OK {
			t.Errorf("the name %q: Check = %v, want OK", s, refused)
		}
		if g, refused := Join(middle(), s, 2); refused != api.OK || g.Members[len(g.Members)-1].Name != s {
			t.Errorf("Join of %q: %v, %v", s, g, refused)
		}
		rows = append(rows,
			refusedRow{"Leave for " + s, middle(), leave(s, 2), api.ErrNone},
			refusedRow{"Beat for " + s, middle(), beat(s, 7), api.ErrNone},
			refusedRow{"Store for " + s, middle(), store(s, 7, 0, 5), api.ErrNone},
			refusedRow{"Where for " + s, middle(), where(s, 0), api.ErrNone})
	}
	for _, s := range badNames() {
		if refused := Check(with(func(g *api.Group) { g.Members[ann].Name = s })); refused != api.ErrState {
			t.Errorf("the name %q: Check = %v, want %v", s, refused, api.ErrState)
		}
		for call, do := range callsFor(s) {
			rows = append(rows,
				refusedRow{fmt.Sprintf("%s, %q", call, s), middle(), do, api.ErrForm},
				refusedRow{fmt.Sprintf("%s, %q, where all is full", call, s), with(full), do, api.ErrForm},
				refusedRow{fmt.Sprintf("%s, %q, in the last generation", call, s), with(lastGen), do, api.ErrForm})
		}
	}
	runRefused(t, rows)
}

// TestCheckMayBe: P6.3, groups that may be, at the edges of what may be.
func TestCheckMayBe(t *testing.T) {
	for name, g := range map[string]api.Group{
		"the middle":                   middle(),
		"no members":                   {Wait: 1},
		"no members, in lists":         {Wait: 1, Members: []api.Member{}, Offsets: []api.Offset{}},
		"as many members as may be":    with(full),
		"the last Clock":               with(func(g *api.Group) { g.Clock = top }),
		"the last Heard":               with(func(g *api.Group) { g.Clock = top; setHeard(g, top) }),
		"the Clock is 0":               with(func(g *api.Group) { g.Clock = 0; setHeard(g, 0) }),
		"the first Heard":              with(func(g *api.Group) { setHeard(g, 0) }),
		"the last Gen":                 with(lastGen),
		"the first Gen":                with(func(g *api.Group) { g.Gen = 0 }),
		"the first Wait":               with(func(g *api.Group) { g.Wait = 1 }),
		"the last Wait":                with(func(g *api.Group) { g.Wait = api.MaxWait }),
		"all parts":                    with(func(g *api.Group) { g.Members[ann].Parts = []int{0, 1, 2, 3} }),
		"the last part alone":          with(func(g *api.Group) { g.Members[ann].Parts = []int{3} }),
		"a part that two have":         with(func(g *api.Group) { g.Members[bob].Parts = []int{0, 1} }),
		"parts that nobody has":        with(func(g *api.Group) { g.Members[ann].Parts = []int{} }),
		"Offsets of all parts":         with(func(g *api.Group) { g.Offsets = []api.Offset{{Part: 0}, {Part: 1}, {Part: 2}, {Part: 3}} }),
		"an Offset of the last part":   with(func(g *api.Group) { g.Offsets = []api.Offset{{Part: 3, At: api.MaxEntries}} }),
		"no Offsets":                   with(func(g *api.Group) { g.Offsets = nil }),
		"Offsets, and nobody has read": {Wait: 1, Offsets: []api.Offset{{Part: 1, At: 1}}},
		"names that begin alike":       with(func(g *api.Group) { g.Members[ann].Name, g.Members[bob].Name = "da", "dann" }),
	} {
		if refused := Check(g); refused != api.OK {
			t.Errorf("%s: Check(%v) = %v, want OK", name, g, refused)
		}
	}
}

// badGroups: groups that may not be, each for one reason alone, where that can be.
func badGroups() map[string]api.Group {
	offsets := func(l ...api.Offset) api.Group { return with(func(g *api.Group) { g.Offsets = l }) }
	parts := func(l ...int) api.Group { return with(func(g *api.Group) { g.Members[ann].Parts = l }) }
	bad := map[string]api.Group{
		"nothing":                    {},
		"the Clock is below 0":       {Clock: -1, Wait: 1},
		"the Clock is too great":     with(func(g *api.Group) { g.Clock = top + 1 }),
		"Gen is below 0":             with(func(g *api.Group) { g.Gen = -1 }),
		"Gen is too great":           with(func(g *api.Group) { g.Gen = top + 1 }),
		"Wait is 0":                  with(func(g *api.Group) { g.Wait = 0 }),
		"Wait is below 0":            with(func(g *api.Group) { g.Wait = -1 }),
		"Wait is too great":          with(func(g *api.Group) { g.Wait = api.MaxWait + 1 }),
		"one too many":               with(func(g *api.Group) { full(g); g.Members = append(g.Members, api.Member{Name: "guy"}) }),
		"very many":                  {Wait: 1, Members: slices.Repeat([]api.Member{{Name: "ann"}}, 100)},
		"no name":                    with(func(g *api.Group) { g.Members[bob].Name = "" }),
		"a name with a great letter": with(func(g *api.Group) { g.Members[dan].Name = "Dan" }),
		"a name too long":            with(func(g *api.Group) { g.Members[dan].Name = "dandandan" }),
		"two of one name":            with(func(g *api.Group) { g.Members[bob].Name = "dan" }),
		"two neighbours of one name": with(func(g *api.Group) { g.Members[bob].Name = "cid" }),
		"Heard is above the Clock":   with(func(g *api.Group) { g.Members[cid].Heard = 51 }),
		"the Clock is below a Heard": with(func(g *api.Group) { g.Clock = 49 }),
		"Heard is below 0":           with(func(g *api.Group) { g.Members[cid].Heard = -1 }),
		"a part twice":               parts(1, 1),
		"the last part twice":        parts(0, 3, 3),
		"parts fall":                 parts(3, 0),
		"parts fall in the end":      parts(0, 2, 1),
		"a part below 0":             parts(-1, 1),
		"a part too great":           parts(1, 4),
		"that part alone":            parts(4),
		"very many parts":            parts(slices.Repeat([]int{0, 1, 2, 3}, 100)...),
		"a member that is nothing":   with(func(g *api.Group) { g.Members = append(g.Members, api.Member{}) }),
		"an Offset twice":            offsets(api.Offset{Part: 1}, api.Offset{Part: 1}),
		"an Offset twice, far on":    offsets(api.Offset{Part: 1, At: 5}, api.Offset{Part: 2}, api.Offset{Part: 2, At: 6}),
		"Offsets fall":               offsets(api.Offset{Part: 2}, api.Offset{Part: 1}),
		"an Offset of a part below":  offsets(api.Offset{Part: -1}),
		"an Offset of a part above":  offsets(api.Offset{Part: 4}),
		"one Offset too many":        offsets(api.Offset{Part: 0}, api.Offset{Part: 1}, api.Offset{Part: 2}, api.Offset{Part: 3}, api.Offset{Part: 4}),
		"very many Offsets":          offsets(slices.Repeat([]api.Offset{{Part: 1}}, 100)...),
		"At is below 0":              offsets(api.Offset{Part: 0, At: -1}),
		"At is too great":            offsets(api.Offset{Part: 0, At: api.MaxEntries + 1}),
		"At is too great, far on":    offsets(api.Offset{Part: 0}, api.Offset{Part: 3, At: api.MaxEntries + 1}),
	}
	for _, n := range []int{math.MinInt, math.MaxInt} {
		s := " is " + strconv.Itoa(n)
		bad["Clock"+s] = with(func(g *api.Group) { g.Clock = n })
		bad["Gen"+s] = with(func(g *api.Group) { g.Gen = n })
		bad["Wait"+s] = with(func(g *api.Group) { g.Wait = n })
		bad["Heard"+s] = with(func(g *api.Group) { g.Members[cid].Heard = n })
		bad["a part"+s] = parts(0, n)
		bad["a part behind one that"+s] = parts(n, 3)
		bad["an Offset's Part"+s] = offsets(api.Offset{Part: n})
		bad["an Offset's At"+s] = offsets(api.Offset{Part: 1, At: n})
	}
	return bad
}

// TestCheckRefuses: P6.3, groups that may not be.
func TestCheckRefuses(t *testing.T) {
	for name, g := range badGroups() {
		if refused := Check(g); refused != api.ErrState {
			t.Errorf("%s: Check(%v) = %v, want %v", name, g, refused, api.ErrState)
		}
	}
}

// TestAllRefuse: P6.3, what Check refuses is refused by all, ahead of all else, wrong names, too.
func TestAllRefuse(t *testing.T) {
	var rows []refusedRow
	for name, g := range badGroups() {
		for _, s := range []string{"ann", "bob", "cid", "dan", "new", "", "Ann", "annannann"} {
			for call, do := range callsFor(s) {
				rows = append(rows, refusedRow{fmt.Sprintf("%s: %s, %q", name, call, s), g, do, api.ErrState})
			}
		}
		for _, n := range []int{math.MinInt, -1, 0, 1, api.MaxTick + 1, math.MaxInt} {
			for _, parts := range []int{-1, 2, api.MaxParts + 1} {
				rows = append(rows, refusedRow{fmt.Sprint(name, ": Tick of ", n, ", parts ", parts), g, tick(n, parts), api.ErrState})
			}
		}
	}
	runRefused(t, rows)
}

// TestCopy: P6.3, the same group, be it one that may be or not.
func TestCopy(t *testing.T) {
	all := badGroups()
	all["the middle"] = middle()
	all["as many as may be"] = with(full)
	all["no members"] = api.Group{Wait: 1}
	for name, g := range all {
		before := told(g)
		if got := Copy(g); told(got) != before || told(g) != before {
			t.Errorf("%s: Copy = %v, want %s", name, got, before)
		}
	}
}
