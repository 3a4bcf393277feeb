package mem

import (
	"math/rand"
	"testing"

	"joist/api"
)

// between tells how many nodes of a level stand between each two neighbours of
// the level above, head and end too.
func between(m *Mem, level int) []int {
	var l []int
	for above := m.head; above != nil; above = above.next[level+1] {
		n := 0
		for x := above.next[level]; x != above.next[level+1]; x = x.next[level] {
			n++
		}
		l = append(l, n)
	}
	return l
}

// checkLevels finds a level that is too full, so that steps would be many, or one
// that is too empty, so that levels would be many.
func checkLevels(t *testing.T, what string, m *Mem) {
	t.Helper()
	top := 0
	for m.head.next[top] != nil {
		top++
	}
	for level := range top {
		for _, n := range between(m, level) {
			if n > 2 || n < 1 && level < top-1 {
				t.Fatalf("%s: %d of %d levels has %d between two of the next", what, level, top, n)
			}
		}
	}
	if 1<<top-1 > m.Count() {
		t.Fatalf("%s: %d levels for %d cells", what, top, m.Count())
	}
}

func TestLevels(t *testing.T) {
	const count = 5000
	r := rand.New(rand.NewSource(7))
	shuffled := r.Perm(count)
	for _, x := range []struct {
		what string
		at   func(i int) int
	}{
		{"rising", func(i int) int { return i }},
		{"falling", func(i int) int { return count - i }},
		{"from both ends", func(i int) int { return (i%2*2 - 1) * (count - i) }},
		{"from the middle", func(i int) int { return (i%2*2 - 1) * i }},
		{"shuffled", func(i int) int { return shuffled[i] }},
		{"in strides", func(i int) int { return i * 1237 % count }},
		{"some again", func(i int) int { return i % 700 }},
	} {
		m := New()
		for i := range count {
			m.Put(api.Cell{Row: "r", Fam: "f", Time: count + x.at(i), Kind: api.CPut, Val: api.Value{Kind: api.VInt}})
			if i < 100 || i%100 == 0 {
				checkLevels(t, x.what, m)
			}
		}
		checkLevels(t, x.what, m)
	}
}
