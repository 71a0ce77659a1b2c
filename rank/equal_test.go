package rank

import (
	"slices"
	"testing"
)

// P23.1: for equal scores the lower Id comes first. No two Ids have the same score for a key, so just the comparison can tell.
func TestEqualScores(t *testing.T) {
	for _, s := range []uint64{0, 1, 1 << 63, 1<<64 - 1} {
		for a := range 64 {
			for b := range 64 {
				c := scored{id: a, score: s}.compare(scored{id: b, score: s})
				if a < b && c >= 0 || a > b && c <= 0 || a == b && c != 0 {
					t.Error(s, a, b, c)
				}
			}
		}
	}
	rows := []scored{{5, 7}, {9, 8}, {3, 7}, {63, 1<<64 - 1}, {0, 7}, {8, 8}, {1, 0}, {62, 1<<63 - 1}}
	slices.SortFunc(rows, scored.compare)
	want := []scored{{63, 1<<64 - 1}, {62, 1<<63 - 1}, {8, 8}, {9, 8}, {0, 7}, {3, 7}, {5, 7}, {1, 0}}
	if !slices.Equal(rows, want) {
		t.Error(rows)
	}
}
