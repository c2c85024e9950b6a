package bounds

import (
	"math"
	"slices"
	"strings"
	"testing"

	"tailrace/api"
)

func TestWithin(t *testing.T) {
	for _, r := range []struct {
		n, least, most int
		want           bool
	}{
		{1, 1, 3, true}, {2, 1, 3, true}, {3, 1, 3, true}, {0, 1, 3, false}, {4, 1, 3, false},
		{5, 5, 5, true}, {0, 0, -1, false}, {-1, 0, -1, false},
		{math.MinInt, 0, api.MaxNumber, false}, {math.MaxInt, 0, api.MaxNumber, false},
		{math.MinInt, math.MinInt, math.MaxInt, true}, {math.MaxInt, math.MinInt, math.MaxInt, true},
	} {
		if got := Within(r.n, r.least, r.most); got != r.want {
			t.Errorf("Within(%d, %d, %d) = %v", r.n, r.least, r.most, got)
		}
	}
}

// TestIsName: P5.1, each length, and each byte at each place.
func TestIsName(t *testing.T) {
	for n := range 2 * api.MaxName {
		s := strings.Repeat("q", n)
		if got, want := IsName(s), n >= 1 && n <= api.MaxName; got != want {
			t.Errorf("IsName(%q) = %v", s, got)
		}
	}
	for b := range 256 {
		for at := range api.MaxName {
			s := []byte(strings.Repeat("m", api.MaxName))
			s[at] = byte(b)
			if got, want := IsName(string(s)), b >= 'a' && b <= 'z'; got != want {
				t.Errorf("IsName(%q) = %v", s, got)
			}
		}
	}
}

// TestPartsRise: all lists of up to four numbers from -1 to MaxParts, and the ends of all numbers.
func TestPartsRise(t *testing.T) {
	lists := [][]int{nil}
	for range api.MaxParts {
		for _, l := range lists {
			for part := -1; part <= api.MaxParts; part++ {
				lists = append(lists, append(slices.Clone(l), part))
			}
		}
	}
	for _, l := range lists {
		once := slices.Clone(l)
		slices.Sort(once)
		want := slices.Equal(slices.Compact(once), l) && !slices.Contains(l, -1) && !slices.Contains(l, api.MaxParts)
		if got := PartsRise(l); got != want {
			t.Errorf("PartsRise(%v) = %v", l, got)
		}
	}
	for _, l := range [][]int{{math.MinInt}, {math.MaxInt}, {0, math.MaxInt}, {math.MaxInt, 0}, {math.MaxInt, math.MinInt}, {math.MinInt, 0}} {
		if PartsRise(l) {
			t.Errorf("PartsRise(%v) = true", l)
		}
	}
}
