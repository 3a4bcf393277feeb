package cell_test

import (
	"maps"
	"math"
	"math/rand"
	"slices"
	"strings"
	"testing"

	"joist/api"
	"joist/cell"
	"joist/codec"
)

func whole(n int) api.Value       { return api.Value{Kind: api.VInt, N: n} }
func text(s string) api.Value     { return api.Value{Kind: api.VText, S: s} }
func many(s string, n int) string { return strings.Repeat(s, n) }

// at is a cell of a column; a put's value is its time.
func at(kind int, row, fam, qual string, time int) api.Cell {
	c := api.Cell{Row: row, Fam: fam, Qual: qual, Time: time, Kind: kind}
	if kind == api.CPut {
		c.Val = whole(time)
	}
	return c
}

// Cells of one column.
func put(time int) api.Cell    { return at(api.CPut, "r", "f", "q", time) }
func one(time int) api.Cell    { return at(api.CCell, "r", "f", "q", time) }
func column(time int) api.Cell { return at(api.CColumn, "r", "f", "q", time) }
func family(time int) api.Cell { return at(api.CFamily, "r", "f", "", time) }

func puts(times ...int) []api.Cell {
	var l []api.Cell
	for _, n := range times {
		l = append(l, put(n))
	}
	return l
}

func with(c api.Cell, v api.Value) api.Cell {
	c.Val = v
	return c
}

// wrong are cells that aren't right.
func wrong() []api.Cell {
	return []api.Cell{
		{},
		at(api.CPut, "", "f", "q", 5),
		at(api.CPut, many("r", api.MaxRow+1), "f", "q", 5),
		at(api.CPut, "r", "", "q", 5),
		at(api.CPut, "r", "F", "q", 5),
		at(api.CPut, "r", many("f", api.MaxName+1), "q", 5),
		at(api.CPut, "r", "f", many("q", api.MaxQual+1), 5),
		put(-1), put(math.MinInt), put(api.MaxClock + 1), put(math.MaxInt),
		column(api.MaxClock + 1), family(math.MaxInt), one(-1),
		with(put(5), api.Value{}),
		with(put(5), text("\xff")),
		with(column(9), whole(9)),
		with(one(5), whole(5)),
		with(family(9), whole(9)),
		at(api.CFamily, "r", "f", "q", 9),
		at(0, "r", "f", "q", 9), at(5, "r", "f", "q", 9), at(-1, "r", "f", "q", 9), at(api.CPut+256, "r", "f", "q", 9),
	}
}

// sorted are the right ones by their keys, of one key the last one.
func sorted(l []api.Cell) []api.Cell {
	byKey := map[string]api.Cell{}
	for _, c := range l {
		if k, ok := codec.Key(c); ok {
			byKey[string(k)] = c
		}
	}
	var out []api.Cell
	for _, k := range slices.Sorted(maps.Keys(byKey)) {
		out = append(out, byKey[k])
	}
	return out
}

// let tells of a put whether nothing hides it, and it lives.
func let(p api.Cell, l []api.Cell, life, now int) bool {
	for _, c := range l {
		if c.Row != p.Row || c.Fam != p.Fam {
			continue
		}
		if c.Kind == api.CFamily && c.Time >= p.Time {
			return false
		}
		if c.Qual == p.Qual && (c.Kind == api.CColumn && c.Time >= p.Time || c.Kind == api.CCell && c.Time == p.Time) {
			return false
		}
	}
	return life == 0 || p.Time+life > now
}

// seen goes over all cells for each put, by the words of the chapter.
func seen(l []api.Cell, versions, life, now int) []api.Cell {
	l = sorted(l)
	if versions < 1 || versions > 8 || life < 0 {
		return nil
	}
	var out []api.Cell
	for _, p := range l {
		if p.Kind != api.CPut || !let(p, l, life, now) {
			continue
		}
		later := 0
		for _, c := range l {
			if c.Kind == api.CPut && c.Row == p.Row && c.Fam == p.Fam && c.Qual == p.Qual && c.Time > p.Time && let(c, l, life, now) {
				later++
			}
		}
		if later < versions {
			out = append(out, p)
		}
	}
	return out
}

// value looks for the first row, and in it for the column's latest put.
func value(l []api.Cell, fam, qual string, versions, life, now int) (api.Value, bool) {
	all := sorted(l)
	for _, c := range seen(l, versions, life, now) {
		if c.Row == all[0].Row && c.Fam == fam && c.Qual == qual {
			return c.Val, true
		}
	}
	return api.Value{}, false
}

func same(t *testing.T, what string, got, want []api.Cell) {
	t.Helper()
	if !slices.Equal(got, want) {
		t.Errorf("%s: %v, not %v", what, got, want)
	}
}

// times holds what is to be seen against the puts of one column with these times.
func times(t *testing.T, what string, l []api.Cell, versions, life, now int, want ...int) {
	t.Helper()
	same(t, what, cell.Seen(l, versions, life, now), puts(want...))
	same(t, what+", needed", cell.Needed(l, versions, life, now), puts(want...))
}

// inOrder are right cells, in order, no two of one place.
func inOrder() []api.Cell {
	return []api.Cell{
		at(api.CPut, "\x00", "f", "q", 1),
		at(api.CFamily, "a", "f", "", 9),
		at(api.CFamily, "a", "f", "", 3),
		at(api.CColumn, "a", "f", "", 4),
		at(api.CCell, "a", "f", "", 4),
		at(api.CPut, "a", "f", "", 4),
		at(api.CPut, "a", "f", "", 0),
		at(api.CPut, "a", "f", "\x00", 7),
		at(api.CPut, "a", "f", "q", 10),
		at(api.CPut, "a", "f", "q", 9),
		at(api.CPut, "a", "f0", "q", 9),
		at(api.CFamily, "a\x00", "f", "", 0),
		at(api.CPut, "a\x00", "f", "q", api.MaxClock),
		at(api.CPut, "b", "a", "q", 1),
		at(api.CPut, many("\xff", api.MaxRow), "a", "q", 1),
	}
}

func TestSort(t *testing.T) {
	same(t, "nil", cell.Sort(nil), nil)
	same(t, "no cells", cell.Sort([]api.Cell{}), nil)
	want := inOrder()
	same(t, "in order", cell.Sort(want), want)
	back := slices.Clone(want)
	slices.Reverse(back)
	same(t, "from the end", cell.Sort(back), want)
	r := rand.New(rand.NewSource(6))
	for range 200 {
		r.Shuffle(len(back), func(i, k int) { back[i], back[k] = back[k], back[i] })
		same(t, "shuffled", cell.Sort(back), want)
	}
}

func TestSortLeavesOutWrongCells(t *testing.T) {
	same(t, "wrong ones", cell.Sort(wrong()), nil)
	for _, w := range wrong() {
		same(t, "a wrong one", cell.Sort([]api.Cell{w}), nil)
		same(t, "a wrong one ahead", cell.Sort([]api.Cell{w, put(5)}), puts(5))
		// It isn't the last one of its place, though it stands behind.
		same(t, "a wrong one behind", cell.Sort([]api.Cell{put(5), w}), puts(5))
		same(t, "a wrong one between", cell.Sort([]api.Cell{put(4), w, put(5)}), puts(5, 4))
	}
}

func TestTheLastOneOfAPlace(t *testing.T) {
	a, b, c := with(put(5), text("a")), with(put(5), text("b")), with(put(5), api.Value{Kind: api.VBool})
	for _, x := range []struct {
		l    []api.Cell
		want []api.Cell
	}{
		{[]api.Cell{a, b}, []api.Cell{b}},
		{[]api.Cell{b, a}, []api.Cell{a}},
		{[]api.Cell{a, b, c}, []api.Cell{c}},
		{[]api.Cell{c, a, a, b, a}, []api.Cell{a}},
		{[]api.Cell{a, put(7), b, put(3), put(7)}, []api.Cell{put(7), b, put(3)}},
		{[]api.Cell{a, b, with(b, api.Value{})}, []api.Cell{b}},
		{[]api.Cell{one(5), a, column(5), one(5), b, column(5)}, []api.Cell{column(5), one(5), b}},
		{[]api.Cell{family(5), family(5), family(4)}, []api.Cell{family(5), family(4)}},
	} {
		same(t, "of one place", cell.Sort(x.l), x.want)
	}
	// Many of a place, also where others lie between.
	var l []api.Cell
	for i := range 3000 {
		l = append(l, with(put(i%30), whole(i)))
	}
	got := cell.Sort(l)
	for i, c := range got {
		if n := 29 - i; c != with(put(n), whole(2970+n)) {
			t.Errorf("at %d: %v", i, c)
		}
	}
	if len(got) != 30 {
		t.Errorf("%d cells", len(got))
	}
	same(t, "the last one is seen", cell.Seen(l, 1, 0, 0), []api.Cell{with(put(29), whole(2999))})
}

func TestSeenInAColumn(t *testing.T) {
	for _, x := range []struct {
		what     string
		l        []api.Cell
		versions int
		want     []int
	}{
		{"nothing", nil, 1, nil},
		{"a put", puts(5), 1, []int{5}},
		{"the chapter's example", append(puts(5, 4, 3), column(3)), 1, []int{5}},
		{"the latest one", puts(3, 5, 4), 1, []int{5}},
		{"two", puts(3, 5, 4), 2, []int{5, 4}},
		{"as many as there are", puts(3, 5, 4), 3, []int{5, 4, 3}},
		{"more than there are", puts(3, 5, 4), 8, []int{5, 4, 3}},
		{"eight", puts(1, 2, 3, 4, 5, 6, 7, 8, 9, 10), 8, []int{10, 9, 8, 7, 6, 5, 4, 3}},
		{"seven", puts(1, 2, 3, 4, 5, 6, 7, 8, 9, 10), 7, []int{10, 9, 8, 7, 6, 5, 4}},

		{"a CCell of its time", append(puts(3, 4, 5), one(4)), 8, []int{5, 3}},
		{"a CCell of no put's time", append(puts(3, 5), one(4)), 8, []int{5, 3}},
		{"a CCell ahead of all", append(puts(3, 4), one(5)), 8, []int{4, 3}},
		{"a CCell behind all", append(puts(4, 5), one(3)), 8, []int{5, 4}},
		{"two CCells", append(puts(3, 4, 5), one(5), one(4)), 8, []int{3}},
		{"what is gone doesn't count", append(puts(3, 4, 5), one(5)), 1, []int{4}},
		{"what is gone doesn't count, of two", append(puts(2, 3, 4, 5), one(4)), 2, []int{5, 3}},

		{"a CColumn of its time", append(puts(3, 4, 5), column(4)), 8, []int{5}},
		{"a CColumn between", append(puts(3, 5), column(4)), 8, []int{5}},
		{"a CColumn ahead of all", append(puts(3, 4), column(5)), 8, nil},
		{"a CColumn at the latest one", append(puts(3, 4), column(4)), 8, nil},
		{"a CColumn below all", append(puts(3, 4), column(2)), 8, []int{4, 3}},
		{"two CColumns", append(puts(2, 3, 4, 5), column(4), column(2)), 8, []int{5}},
		{"a CCell above a CColumn", append(puts(3, 4, 5), one(5), column(3)), 8, []int{4}},
		{"a CCell below a CColumn", append(puts(3, 4, 5), one(3), column(4)), 8, []int{5}},
		{"all of one time", []api.Cell{put(5), one(5), column(5)}, 8, nil},

		{"a CFamily of its time", append(puts(3, 4, 5), family(4)), 8, []int{5}},
		{"a CFamily between", append(puts(3, 5), family(4)), 8, []int{5}},
		{"a CFamily ahead of all", append(puts(3, 4), family(5)), 8, nil},
		{"a CFamily below all", append(puts(3, 4), family(2)), 8, []int{4, 3}},
		{"two CFamilies", append(puts(2, 3, 4, 5), family(2), family(4)), 8, []int{5}},
		{"a CFamily above a CColumn", append(puts(2, 3, 4, 5), family(4), column(2)), 8, []int{5}},
		{"a CFamily below a CColumn", append(puts(2, 3, 4, 5), family(2), column(4)), 8, []int{5}},
		{"a put behind a family that is gone", []api.Cell{put(5), family(8), put(9)}, 8, []int{9}},

		{"time 0", puts(0, 1), 8, []int{1, 0}},
		{"a CCell at 0", append(puts(0, 1), one(0)), 8, []int{1}},
		{"a CColumn at 0", append(puts(0, 1), column(0)), 8, []int{1}},
		{"a CFamily at 0", append(puts(0, 1), family(0)), 8, []int{1}},
		{"the greatest time", puts(api.MaxClock, api.MaxClock-1), 1, []int{api.MaxClock}},
		{"a CFamily at the greatest time", append(puts(api.MaxClock, 5), family(api.MaxClock)), 8, nil},
		{"a CColumn below the greatest time", append(puts(api.MaxClock, 5), column(api.MaxClock-1)), 8, []int{api.MaxClock}},
	} {
		times(t, x.what, x.l, x.versions, 0, 7, x.want...)
		slices.Reverse(x.l)
		times(t, x.what+", from the end", x.l, x.versions, 0, math.MaxInt, x.want...)
	}
}

// What hides one family's or column's puts hides no other one's.
func TestSeenInOtherPlaces(t *testing.T) {
	others := []api.Cell{
		at(api.CPut, "a", "f", "q", 5),
		at(api.CPut, "r", "e", "q", 5),
		at(api.CPut, "r", "f", "", 5),
		at(api.CPut, "r", "f", "p", 5),
		at(api.CPut, "r", "f", "q", 5),
		at(api.CPut, "r", "f", "q\x00", 5),
		at(api.CPut, "r", "f", "r", 5),
		at(api.CPut, "r", "f0", "q", 5),
		at(api.CPut, "r\x00", "f", "q", 5),
		at(api.CPut, "s", "f", "q", 5),
	}
	isColumn := func(c api.Cell) bool { return c == put(5) }
	isFamily := func(c api.Cell) bool { return c.Row == "r" && c.Fam == "f" }
	for _, x := range []struct {
		what string
		c    api.Cell
		gone func(api.Cell) bool
	}{
		{"CCell", one(5), isColumn},
		{"CColumn", column(5), isColumn},
		{"a later CColumn", column(6), isColumn},
		{"CFamily", family(5), isFamily},
		{"a later CFamily", family(6), isFamily},
	} {
		want := slices.DeleteFunc(slices.Clone(others), x.gone)
		same(t, x.what, cell.Seen(append([]api.Cell{x.c}, others...), 1, 0, 0), want)
		same(t, x.what, cell.Needed(append([]api.Cell{x.c}, others...), 1, 0, 0), want)
	}
	// Each column has versions of its own.
	l, want := slices.Clone(others), []api.Cell{}
	for _, c := range others {
		for _, n := range []int{3, 4} {
			l = append(l, at(api.CPut, c.Row, c.Fam, c.Qual, n))
		}
		want = append(want, c, at(api.CPut, c.Row, c.Fam, c.Qual, 4))
	}
	same(t, "versions", cell.Seen(l, 2, 0, 0), want)
	same(t, "one version", cell.Seen(l, 1, 0, 0), others)
}

// Behind a column of which much is gone another one begins anew, whether it
// differs in the row, the family or the qualifier alone.
func TestSeenBeginsAnew(t *testing.T) {
	column9 := append(puts(5, 4), column(9))
	family9 := append(puts(5, 4), family(9))
	one5 := []api.Cell{put(5), one(5)}
	for _, x := range []struct {
		next       api.Cell
		withFamily bool
	}{
		{at(api.CPut, "s", "f", "q", 5), false},
		{at(api.CPut, "r", "g", "q", 5), false},
		{at(api.CPut, "r", "f", "r", 5), true},
	} {
		alone := []api.Cell{x.next}
		same(t, "behind a put", cell.Seen(append(puts(5), x.next), 1, 0, 0), []api.Cell{put(5), x.next})
		same(t, "behind a CCell", cell.Seen(append(one5, x.next), 1, 0, 0), alone)
		same(t, "behind a CColumn", cell.Seen(append(column9, x.next), 1, 0, 0), alone)
		if x.withFamily {
			alone = nil
		}
		same(t, "behind a CFamily", cell.Seen(append(family9, x.next), 1, 0, 0), alone)
	}
}

func TestLife(t *testing.T) {
	l := puts(5, 4, 3)
	for _, x := range []struct {
		life, now int
		want      []int
	}{
		{0, math.MaxInt, []int{5, 4, 3}},
		{0, math.MinInt, []int{5, 4, 3}},
		{10, 12, []int{5, 4, 3}},
		{10, 13, []int{5, 4}},
		{10, 14, []int{5}},
		{10, 15, nil},
		{10, math.MaxInt, nil},
		{10, math.MinInt, []int{5, 4, 3}},
		{10, -1, []int{5, 4, 3}},
		{1, 3, []int{5, 4, 3}},
		{1, 4, []int{5, 4}},
		{1, 5, []int{5}},
		{1, 6, nil},
		{api.MaxClock, api.MaxClock + 4, []int{5}},
		// A sum that is greater than a number goes round.
		{math.MaxInt - 4, 0, []int{4, 3}},
		{math.MaxInt - 3, 0, []int{3}},
		{math.MaxInt - 2, math.MaxInt - 1, nil},
		{math.MaxInt, math.MinInt + 2, []int{5, 4}},
		{math.MaxInt, math.MinInt, []int{5, 4, 3}},
		{math.MaxInt, 0, nil},
	} {
		times(t, "by life", l, 8, x.life, x.now, x.want...)
	}
	times(t, "no sum", puts(0), 1, math.MaxInt, math.MaxInt-1, 0)
	times(t, "no sum", puts(0), 1, math.MaxInt, math.MaxInt)
	// Versions and life together, and what is gone.
	times(t, "two of three", l, 2, 10, 12, 5, 4)
	times(t, "one of two", append(l, one(5)), 1, 10, 13, 4)
	times(t, "none of two", append(l, one(5)), 1, 10, 14)
	// A put whose sum went round lives no more, and so takes no place of an earlier one.
	times(t, "the last one that lives", puts(5, 4, 3), 1, math.MaxInt-3, 0, 3)
	// What tells something gone doesn't end with its life.
	times(t, "a CColumn for ever", append(puts(9, 3), column(4)), 8, 1, 9, 9)
	times(t, "a CFamily for ever", append(puts(9, 8), family(8)), 8, 2, 9, 9)
}

func TestRules(t *testing.T) {
	l := append(puts(1, 2, 3, 4, 5, 6, 7, 8, 9, 10), family(0))
	for _, n := range []int{math.MinInt, -8, -1, 0, 9, 10, 255, 257, 1 << 32, 1<<32 + 1, math.MaxInt} {
		times(t, "versions", l, n, 0, 0)
		times(t, "versions and life", l, n, 5, 0)
	}
	for _, n := range []int{math.MinInt, math.MinInt + 1, -1 << 32, -2, -1} {
		for _, now := range []int{math.MinInt, -1, 0, math.MaxInt} {
			times(t, "life", l, 8, n, now)
			times(t, "versions and life", l, 0, n, now)
		}
	}
	for n := 1; n <= 8; n++ {
		if got := cell.Seen(l, n, 0, 0); len(got) != n || got[0] != put(10) || got[n-1] != put(11-n) {
			t.Errorf("%d versions: %v", n, got)
		}
	}
}

func TestValue(t *testing.T) {
	row := []api.Cell{
		with(at(api.CPut, "b", "f", "q", 5), text("five")),
		with(at(api.CPut, "b", "f", "q", 4), text("four")),
		with(at(api.CPut, "b", "f", "", 3), api.Value{Kind: api.VBool}),
		with(at(api.CPut, "b", "g", "q", 9), text("nine")),
		with(at(api.CPut, "c", "f", "q", 8), text("c's")),
		with(at(api.CPut, "c", "f", "x", 8), text("c's x")),
	}
	of := func(more ...api.Cell) []api.Cell { return append(slices.Clone(more), row...) }
	for _, x := range []struct {
		what      string
		l         []api.Cell
		fam, qual string
		want      api.Value
		ok        bool
	}{
		{"the latest one", row, "f", "q", text("five"), true},
		{"another family's", row, "g", "q", text("nine"), true},
		{"of no qualifier", row, "f", "", api.Value{Kind: api.VBool}, true},
		{"no such column", row, "f", "z", api.Value{}, false},
		{"no such family", row, "h", "q", api.Value{}, false},
		{"no family", row, "", "", api.Value{}, false},
		{"no right family", row, "F", "q", api.Value{}, false},
		{"long names", row, many("f", 1000), many("q", 1000), api.Value{}, false},
		{"of a later row", row, "f", "x", api.Value{}, false},
		{"no cells", nil, "f", "q", api.Value{}, false},
		{"no right cells", wrong(), "f", "q", api.Value{}, false},
		{"the latest one is gone", of(at(api.CCell, "b", "f", "q", 5)), "f", "q", text("four"), true},
		{"all is gone", of(at(api.CColumn, "b", "f", "q", 5)), "f", "q", api.Value{}, false},
		{"the family is gone", of(at(api.CFamily, "b", "f", "", 7)), "f", "q", api.Value{}, false},
		{"another family is gone", of(at(api.CFamily, "b", "f", "", 7)), "g", "q", text("nine"), true},
		// A row has cells, though nothing of it is to be seen.
		{"a row of what is gone ahead", of(at(api.CFamily, "a", "f", "", 7)), "f", "q", api.Value{}, false},
		{"a row without the column ahead", of(at(api.CPut, "a", "f", "z", 7)), "f", "q", api.Value{}, false},
		{"a row with the column ahead", of(at(api.CPut, "a", "f", "q", 1)), "f", "q", whole(1), true},
		// What isn't right isn't of the first row.
		{"a wrong row ahead", of(at(api.CPut, "", "f", "q", 7), at(api.CPut, "a", "F", "q", 7), at(api.CPut, "a", "f", "q", -1)), "f", "q", text("five"), true},
		{"of one place", append(of(), with(row[0], text("new"))), "f", "q", text("new"), true},
	} {
		for range 2 {
			if v, ok := cell.Value(x.l, x.fam, x.qual, 1, 0, 5); v != x.want || ok != x.ok {
				t.Errorf("%s: %v, %v", x.what, v, ok)
			}
			if x.what == "of one place" {
				break
			}
			slices.Reverse(x.l)
		}
	}
}

func TestValueByRules(t *testing.T) {
	l := puts(3, 5, 4)
	for _, x := range []struct {
		versions, life, now int
		want                api.Value
		ok                  bool
	}{
		{1, 0, 0, whole(5), true}, {8, 0, math.MaxInt, whole(5), true}, {2, 10, 14, whole(5), true}, {2, 10, 15, api.Value{}, false},
		{0, 0, 0, api.Value{}, false}, {9, 0, 0, api.Value{}, false}, {1, -1, math.MinInt, api.Value{}, false},
		{math.MinInt, 0, 0, api.Value{}, false}, {math.MaxInt, 0, 0, api.Value{}, false}, {1, math.MinInt, 0, api.Value{}, false},
		{1, math.MaxInt - 4, 0, whole(4), true}, {1, math.MaxInt, 0, api.Value{}, false},
	} {
		if v, ok := cell.Value(l, "f", "q", x.versions, x.life, x.now); v != x.want || ok != x.ok {
			t.Errorf("%d, %d, %d: %v, %v", x.versions, x.life, x.now, v, ok)
		}
	}
}

func TestRows(t *testing.T) {
	of := func(rows ...string) []api.Cell {
		var l []api.Cell
		for _, r := range rows {
			l = append(l, at(api.CPut, r, "f", "q", 1))
		}
		return l
	}
	long := many("r", 1000)
	for _, x := range []struct {
		l    []api.Cell
		want []string
	}{
		{nil, nil},
		{[]api.Cell{}, nil},
		{of("a"), []string{"a"}},
		{of("a", "a", "a"), []string{"a"}},
		{of("b", "a", "b", "c", "a"), []string{"a", "b", "c"}},
		{of("\xff", "\u00e4", "z", "a\x00", "a", "", "\x00", "B", "aa"), []string{"", "\x00", "B", "a", "a\x00", "aa", "z", "\u00e4", "\xff"}},
		{of(long, "r", long), []string{"r", long}},
		{[]api.Cell{{}, {}}, []string{""}},
		{append(wrong(), of("x")...), []string{"", "r", many("r", api.MaxRow+1), "x"}},
		{inOrder(), []string{"\x00", "a", "a\x00", "b", many("\xff", api.MaxRow)}},
	} {
		if got := cell.Rows(x.l); !slices.Equal(got, x.want) {
			t.Errorf("%.60q, not %.60q", got, x.want)
		}
	}
}

// draw makes cells of few places, so that many meet; some aren't right.
func draw(pick func(int) int, count int) []api.Cell {
	kinds := []int{api.CPut, api.CPut, api.CPut, api.CPut, api.CCell, api.CColumn, api.CFamily}
	var l []api.Cell
	for i := range count {
		c := api.Cell{Row: []string{"a", "b"}[pick(2)], Fam: []string{"f", "g"}[pick(2)], Kind: kinds[pick(len(kinds))], Time: pick(12)}
		if c.Kind != api.CFamily {
			c.Qual = []string{"", "q", "q\x00"}[pick(3)]
		}
		if c.Kind == api.CPut {
			c.Val = whole(i)
		}
		if pick(16) == 0 {
			c = wrong()[pick(len(wrong()))]
		}
		l = append(l, c)
	}
	return l
}

// holds holds all calls against what the chapter says, told in another way.
func holds(t *testing.T, l []api.Cell, versions, life, now int) {
	t.Helper()
	same(t, "Sort", cell.Sort(l), sorted(l))
	want := seen(l, versions, life, now)
	same(t, "Seen", cell.Seen(l, versions, life, now), want)
	need := cell.Needed(l, versions, life, now)
	same(t, "Needed", need, want)
	// What is to be seen later on is among what is needed.
	for later := range 4 {
		same(t, "later", cell.Seen(need, versions, life, now+later), seen(l, versions, life, now+later))
	}
	for _, fam := range []string{"f", "g", ""} {
		for _, qual := range []string{"", "q", "q\x00", "z"} {
			v, ok := cell.Value(l, fam, qual, versions, life, now)
			if w, is := value(l, fam, qual, versions, life, now); v != w || ok != is {
				t.Errorf("Value of %q, %q: %v, %v, not %v, %v", fam, qual, v, ok, w, is)
			}
		}
	}
}

func TestAsTheChapterSays(t *testing.T) {
	r := rand.New(rand.NewSource(66))
	for range 1000 {
		holds(t, draw(r.Intn, r.Intn(60)), r.Intn(10), r.Intn(8)*r.Intn(2), r.Intn(20))
		if t.Failed() {
			return
		}
	}
	for range 20 {
		holds(t, draw(r.Intn, 300), 1+r.Intn(8), 0, 0)
	}
}

func FuzzAsTheChapterSays(f *testing.F) {
	f.Add([]byte("\x00\x00\x00\x05\x01\x01\x00\x00\x06\x09\x01\x00\x00\x00\x0b\x01\x01"), 1, 0, 0)
	f.Add([]byte("\x00\x00\x00\x05\x01\x01\x00\x00\x05\x03\x01\x01"), 8, 10, 12)
	f.Fuzz(func(t *testing.T, b []byte, versions, life, now int) {
		pick := func(n int) int {
			if len(b) == 0 {
				return 0
			}
			x := int(b[0]) % n
			b = b[1:]
			return x
		}
		l := draw(pick, min(len(b)/5, 60))
		same(t, "Seen", cell.Seen(l, versions, life, now), seen(l, versions, life, now))
		holds(t, l, versions&7+1, life&15, now&15)
	})
}

// What is to be seen doesn't hang on the order, if no two are of one place.
func TestAnyOrder(t *testing.T) {
	r := rand.New(rand.NewSource(666))
	for range 300 {
		l := sorted(draw(r.Intn, 40))
		versions, life, now := 1+r.Intn(8), r.Intn(8), r.Intn(16)
		all, want, rows := cell.Sort(l), cell.Seen(l, versions, life, now), cell.Rows(l)
		for range 5 {
			r.Shuffle(len(l), func(i, k int) { l[i], l[k] = l[k], l[i] })
			same(t, "Sort", cell.Sort(l), all)
			same(t, "Seen", cell.Seen(l, versions, life, now), want)
			same(t, "Needed", cell.Needed(l, versions, life, now), want)
			if got := cell.Rows(l); !slices.Equal(got, rows) {
				t.Errorf("Rows: %q, not %q", got, rows)
			}
		}
	}
}

func TestAnyArguments(t *testing.T) {
	numbers := []int{math.MinInt, math.MinInt + 1, -1, 0, 1, 8, 9, api.MaxClock, math.MaxInt - 1, math.MaxInt}
	texts := []string{"", "f", "q", "\x00", "\xff", many("x", 1<<16)}
	l := append(wrong(), inOrder()...)
	for _, s := range texts {
		for _, n := range numbers {
			l = append(l, api.Cell{Row: s, Fam: s, Qual: s, Time: n, Kind: n, Val: api.Value{Kind: n, N: n, S: s}}, put(n))
		}
	}
	for _, cells := range [][]api.Cell{nil, {}, {{}}, wrong(), inOrder(), l} {
		same(t, "Sort", cell.Sort(cells), sorted(cells))
		cell.Rows(cells)
		for _, versions := range numbers {
			for _, life := range numbers {
				for _, now := range numbers {
					want := seen(cells, versions, life, now)
					same(t, "Seen", cell.Seen(cells, versions, life, now), want)
					same(t, "Needed", cell.Needed(cells, versions, life, now), want)
				}
				for _, s := range texts {
					cell.Value(cells, s, s, versions, life, 0)
				}
			}
		}
	}
}

// full gives cells with spare room, in which others lie.
func full(l []api.Cell) []api.Cell {
	out := append(make([]api.Cell, 0, len(l)+40), l...)
	for i := len(out); i < cap(out); i++ {
		out[:cap(out)][i] = put(1000 + i)
	}
	return out
}

// spoil writes over a list and its spare room.
func spoil[T any](l []T, with T) {
	l = l[:cap(l)]
	for i := range l {
		l[i] = with
	}
}

func TestArgumentsStayAndAnswersAreNew(t *testing.T) {
	for _, l := range [][]api.Cell{nil, inOrder(), puts(3, 4, 5), puts(5, 4, 3), append(puts(5, 5, 4), family(3)), append(wrong(), put(5)), append(puts(5), wrong()...)} {
		for _, call := range []func(l []api.Cell) []api.Cell{
			cell.Sort,
			func(l []api.Cell) []api.Cell { return cell.Seen(l, 8, 0, 0) },
			func(l []api.Cell) []api.Cell { return cell.Seen(l, 1, 3, 6) },
			func(l []api.Cell) []api.Cell { return cell.Needed(l, 8, 0, 0) },
			func(l []api.Cell) []api.Cell {
				var out []api.Cell
				for _, r := range cell.Rows(l) {
					out = append(out, api.Cell{Row: r})
				}
				rows := cell.Rows(l)
				spoil(rows, "spoilt")
				return out
			},
			func(l []api.Cell) []api.Cell {
				v, _ := cell.Value(l, "f", "q", 8, 0, 0)
				return []api.Cell{{Val: v}}
			},
		} {
			in := full(l)
			before := slices.Clone(in[:cap(in)])
			first := call(in)
			want := slices.Clone(first)
			same(t, "the argument", in[:cap(in)], before)
			second := call(in)
			spoil(first, api.Cell{Row: "spoilt"})
			same(t, "the argument behind an answer that is spoilt", in[:cap(in)], before)
			same(t, "another answer", second, want)
			spoil(in, api.Cell{Row: "spoilt"})
			same(t, "an answer behind an argument that is spoilt", second, want)
			same(t, "a third answer", call(full(l)), want)
		}
	}
}

// Many cells don't take a time by each for all of them.
func TestManyCells(t *testing.T) {
	const count = 1 << 17
	var l []api.Cell
	for i := range count {
		l = append(l, put(i*7919%count))
	}
	times(t, "of one column", l, 2, 0, 0, count-1, count-2)
	times(t, "one that is left", append(l, column(count-2)), 8, 0, 0, count-1)
	if got := cell.Rows(l); len(got) != 1 {
		t.Error(len(got))
	}
	if v, ok := cell.Value(l, "f", "q", 1, 0, 0); v != whole(count-1) || !ok {
		t.Error(v, ok)
	}
}
