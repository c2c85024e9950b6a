package group

import (
	"fmt"
	"math"
	"math/rand"
	"slices"
	"testing"

	"tailrace/api"
)

// TestAssign: P6.2, in the order of names, of those that are the same the one ahead first, round and round.
func TestAssign(t *testing.T) {
	for _, r := range []struct {
		names []string
		parts int
		want  string
	}{
		{nil, 0, "[]"},
		{nil, 4, "[]"},
		{[]string{}, -1, "[]"},
		{nil, math.MaxInt, "[]"},
		{nil, math.MinInt, "[]"},
		{[]string{"a"}, 0, "[[]]"},
		{[]string{"a"}, 1, "[[0]]"},
		{[]string{"a"}, 4, "[[0 1 2 3]]"},
		{[]string{"a"}, -1, "[[]]"},
		{[]string{"a", "b"}, math.MinInt, "[[] []]"},
		{[]string{"a", "b"}, 1, "[[0] []]"},
		{[]string{"b", "a"}, 1, "[[] [0]]"},
		{[]string{"b", "a"}, 2, "[[1] [0]]"},
		{[]string{"b", "a"}, 3, "[[1] [0 2]]"},
		{[]string{"b", "a"}, 4, "[[1 3] [0 2]]"},
		{[]string{"c", "a", "b"}, 7, "[[2 5] [0 3 6] [1 4]]"},
		{[]string{"c", "a", "b"}, 2, "[[] [0] [1]]"},
		{[]string{"a", "a", "a"}, 4, "[[0 3] [1] [2]]"},
		{[]string{"b", "a", "b", "a"}, 6, "[[2] [0 4] [3] [1 5]]"},
		{[]string{"ab", "a", ""}, 3, "[[2] [1] [0]]"},
		{[]string{"a", "Z", "é", "\xff", "0"}, 5, "[[2] [1] [3] [4] [0]]"},
		{[]string{"a\x00", "a"}, 2, "[[1] [0]]"},
	} {
		before := slices.Clone(r.names)
		if got := fmt.Sprint(Assign(r.names, r.parts)); got != r.want {
			t.Errorf("Assign(%q, %d) = %s, want %s", r.names, r.parts, got, r.want)
		}
		if !slices.Equal(r.names, before) {
			t.Errorf("Assign(%q, %d) changed the names: %q", before, r.parts, r.names)
		}
	}
}

// dealt: the parts go round, by hand: whose name is the least, of those that have the fewest, gets the next one.
func dealt(names []string, parts int) [][]int {
	all := make([][]int, len(names))
	if len(names) == 0 {
		return all
	}
	for part := range parts {
		to := 0
		for i := range names {
			if len(all[i]) < len(all[to]) || len(all[i]) == len(all[to]) && names[i] < names[to] {
				to = i
			}
		}
		all[to] = append(all[to], part)
	}
	return all
}

// TestAssignDrawn: P6.2, at drawn names, among them such as are the same.
func TestAssignDrawn(t *testing.T) {
	d := rand.New(rand.NewSource(2))
	for range 5000 {
		var names []string
		for range d.Intn(40) {
			names = append(names, []string{"", "a", "b", "ab", "ba", "Z", "zz"}[d.Intn(7)]+string(rune('a'+d.Intn(3))))
		}
		parts := d.Intn(100)
		if got, want := fmt.Sprint(Assign(names, parts)), fmt.Sprint(dealt(names, parts)); got != want {
			t.Fatalf("Assign(%q, %d) = %s, want %s", names, parts, got, want)
		}
	}
}

// TestAssignMuch: P6.2, many names and many parts end in time.
func TestAssignMuch(t *testing.T) {
	const many = 200000
	names := slices.Repeat([]string{"b", "a"}, many/2)
	got := Assign(names, many+1)
	if len(got) != many || len(got[1]) != 2 || got[1][1] != many || got[0][0] != many/2 || got[many-1][0] != many/2-1 {
		t.Errorf("Assign of %d names: %v, %v, .., %v", many, got[0], got[1], got[many-1])
	}
	got = Assign([]string{"b", "a"}, many)
	if len(got[0]) != many/2 || len(got[1]) != many/2 || got[0][many/2-1] != many-1 {
		t.Errorf("Assign of %d parts to two: %d and %d", many, len(got[0]), len(got[1]))
	}
}

// TestAssignMemory: no two lists of an answer share memory, and no two answers do.
func TestAssignMemory(t *testing.T) {
	names := []string{"c", "a", "b", "a", "d"}
	for parts := range 12 {
		one, two := Assign(names, parts), Assign(names, parts)
		want := fmt.Sprint(two)
		for i := range one {
			fill(one[i], 100+i)
		}
		for i := range one {
			for _, part := range one[i] {
				if part != 100+i {
					t.Errorf("parts %d: lists of one answer share memory: %v", parts, one)
				}
			}
		}
		fill(one, nil)
		if fmt.Sprint(two) != want {
			t.Errorf("parts %d: two answers share memory", parts)
		}
	}
}

// TestAnew: P6.2, all that assign anew give each member the parts of its name, whatever these were, and Gen is one more.
func TestAnew(t *testing.T) {
	for parts := range api.MaxParts + 1 {
		for name, call := range map[string]answer{
			"Join":  join("abe", parts),
			"Leave": leave("ann", parts),
			"Tick":  tick(1, parts),
		} {
			g, refused := call(middle())
			if refused != api.OK || g.Gen != 8 {
				t.Errorf("%s, parts %d: %v, %v", name, parts, g, refused)
			}
			var names []string
			var own [][]int
			for _, m := range g.Members {
				names, own = append(names, m.Name), append(own, m.Parts)
			}
			if fmt.Sprint(own) != fmt.Sprint(dealt(names, parts)) {
				t.Errorf("%s, parts %d: %v have %v", name, parts, names, own)
			}
		}
	}
}
