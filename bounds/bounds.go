// Package bounds: what numbers, names and lists of parts may be, wherever they stand.
package bounds

import "tailrace/api"

// Within: is a number from least to most?
func Within(n, least, most int) bool { return n >= least && n <= most }

// IsName: has a text so many small letters as a name may have, and nothing else?
func IsName(s string) bool {
	if !Within(len(s), 1, api.MaxName) {
		return false
	}
	for i := range len(s) {
		if s[i] < 'a' || s[i] > 'z' {
			return false
		}
	}
	return true
}

// PartsRise: do they, and are there such?
func PartsRise(parts []int) bool {
	least := 0
	for _, part := range parts {
		if !Within(part, least, api.MaxParts-1) {
			return false
		}
		least = part + 1
	}
	return true
}
