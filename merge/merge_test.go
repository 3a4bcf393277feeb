package merge_test

import (
	"bytes"
	"math"
	"math/rand"
	"runtime"
	"slices"
	"strings"
	"testing"

	"joist/api"
	"joist/codec"
	"joist/merge"
)

func whole(n int) api.Value       { return api.Value{Kind: api.VInt, N: n} }
func text(s string) api.Value     { return api.Value{Kind: api.VText, S: s} }
func many(s string, n int) string { return strings.Repeat(s, n) }

// at is a cell of a column; a put's value is its time.
func at(kind int, row, fam, qual string, time int) api.Cell {
	c := api.Cell{Row: row, Fam: fam, Qual: qual, Time: time, Kind: kind}
	if kind == api.CPut {
		c.Val = whole(time)
	}
	return c
}

func put(time int) api.Cell { return at(api.CPut, "r", "f", "q", time) }

func puts(times ...int) []api.Cell {
	var l []api.Cell
	for _, n := range times {
		l = append(l, put(n))
	}
	return l
}

func with(c api.Cell, v api.Value) api.Cell {
	c.Val = v
	return c
}

// told are cells whose values tell of which run they are.
func told(l []api.Cell, by string) []api.Cell {
	l = slices.Clone(l)
	for i, c := range l {
		if c.Kind == api.CPut {
			l[i] = with(c, text(by))
		}
	}
	return l
}

// wrong are cells that aren't right.
func wrong() []api.Cell {
	return []api.Cell{
		{},
		at(api.CPut, "", "f", "q", 5), at(api.CPut, many("r", api.MaxRow+1), "f", "q", 5),
		at(api.CPut, "r", "", "q", 5), at(api.CPut, "r", "F", "q", 5), at(api.CPut, "r", "f\x00", "q", 5),
		at(api.CPut, "r", many("f", api.MaxName+1), "q", 5), at(api.CPut, "r", "f", many("q", api.MaxQual+1), 5),
		put(-1), put(math.MinInt), put(api.MaxClock + 1), put(math.MaxInt),
		with(put(5), api.Value{}), with(put(5), text("\xff")), with(put(5), text(many("x", api.MaxData+1))),
		with(put(5), api.Value{Kind: api.VBool, N: 2}),
		with(at(api.CColumn, "r", "f", "q", 5), whole(9)), with(at(api.CCell, "r", "f", "q", 5), whole(5)),
		with(at(api.CFamily, "r", "f", "", 5), whole(9)), at(api.CFamily, "r", "f", "q", 5),
		at(0, "r", "f", "q", 5), at(5, "r", "f", "q", 5), at(-1, "r", "f", "q", 5), at(api.CPut+256, "r", "f", "q", 5),
		at(math.MinInt, "r", "f", "q", 5), at(math.MaxInt, "r", "f", "q", 5),
	}
}

// inOrder are right cells, in order, no two of one place: a run.
func inOrder() []api.Cell {
	return []api.Cell{
		at(api.CPut, "\x00", "f", "q", 1),
		at(api.CPut, "\x00\x00", "f", "q", 1),
		at(api.CFamily, "a", "f", "", 9),
		at(api.CFamily, "a", "f", "", 3),
		at(api.CColumn, "a", "f", "", 4),
		at(api.CCell, "a", "f", "", 4),
		at(api.CPut, "a", "f", "", 4),
		at(api.CPut, "a", "f", "", 0),
		at(api.CPut, "a", "f", "\x00", 7),
		at(api.CPut, "a", "f", "q", 10),
		at(api.CPut, "a", "f", "q", 9),
		at(api.CCell, "a", "f", "q", 8),
		at(api.CPut, "a", "f", many("q", api.MaxQual), 9),
		at(api.CFamily, "a", "f0", "", 1),
		at(api.CPut, "a", "f0", "q", 9),
		at(api.CFamily, "a\x00", "f", "", 0),
		at(api.CPut, "a\x00", "f", "q", api.MaxClock),
		at(api.CPut, "aa", "0", "", 1),
		at(api.CPut, "b", many("z", api.MaxName), "q", 1),
		at(api.CFamily, "c", "a", "", api.MaxClock),
		at(api.CPut, "\xff", "a", "q", 1),
		at(api.CPut, many("\xff", api.MaxRow), "a", "q", 1),
	}
}

func samePlace(a, b api.Cell) bool {
	a.Val, b.Val = api.Value{}, api.Value{}
	return a == b
}

// plain goes over runs told plainly: all of them, at each step.
type plain [][]api.Cell

// plainly takes of each run the longest beginning that is one, by the keys.
func plainly(runs [][]api.Cell) plain {
	var p plain
	for _, l := range runs {
		n := 0
		var last []byte
		for n < len(l) {
			k, ok := codec.Key(l[n])
			if !ok || n > 0 && bytes.Compare(last, k) >= 0 {
				break
			}
			last = k
			n++
		}
		p = append(p, slices.Clone(l[:n]))
	}
	return p
}

func (p plain) left() int {
	n := 0
	for _, l := range p {
		n += len(l)
	}
	return n
}

func (p plain) next() (api.Cell, int, bool) {
	from := -1
	for i, l := range p {
		if len(l) > 0 && (from < 0 || codec.Order(l[0], p[from][0]) < 0) {
			from = i
		}
	}
	if from < 0 {
		return api.Cell{}, 0, false
	}
	c := p[from][0]
	for i := range p {
		p[i] = slices.DeleteFunc(p[i], func(x api.Cell) bool { return samePlace(x, c) })
	}
	return c, from, true
}

func (p plain) skip(c api.Cell) {
	for i := range p {
		p[i] = slices.DeleteFunc(p[i], func(x api.Cell) bool { return codec.Order(x, c) < 0 })
	}
}

// merged are, by the words of the chapter, the cells that are in one of the runs,
// and of which none of an earlier run has the place; they are put in order.
func merged(runs [][]api.Cell) []api.Cell {
	var l []api.Cell
	for _, r := range plainly(runs) {
		for _, c := range r {
			if !slices.ContainsFunc(l, func(x api.Cell) bool { return samePlace(x, c) }) {
				l = append(l, c)
			}
		}
	}
	slices.SortFunc(l, codec.Order)
	return l
}

func same(t *testing.T, what string, got, want []api.Cell) {
	t.Helper()
	if !slices.Equal(got, want) {
		t.Errorf("%s: %v, not %v", what, got, want)
	}
}

func left(t *testing.T, what string, m *merge.Merger, want int) {
	t.Helper()
	if n := m.Left(); n != want {
		t.Errorf("%s: Left %d, not %d", what, n, want)
	}
}

// next holds what is told next, from which run, and how many are left then.
func next(t *testing.T, what string, m *merge.Merger, want api.Cell, wantFrom, wantLeft int) {
	t.Helper()
	if c, from, ok := m.Next(); c != want || from != wantFrom || !ok {
		t.Errorf("%s: Next: %v, %d, %v, not %v, %d", what, c, from, ok, want, wantFrom)
	}
	left(t, what, m, wantLeft)
}

func nothing(t *testing.T, what string, m *merge.Merger) {
	t.Helper()
	for range 3 {
		left(t, what, m, 0)
		if c, from, ok := m.Next(); c != (api.Cell{}) || from != 0 || ok {
			t.Errorf("%s: Next: %v, %d, %v", what, c, from, ok)
		}
	}
}

// holds goes through runs to their end, beside the plain ones.
func holds(t *testing.T, what string, m *merge.Merger, p plain) {
	t.Helper()
	for {
		left(t, what, m, p.left())
		c, from, ok := p.next()
		if !ok {
			break
		}
		next(t, what, m, c, from, p.left())
		if t.Failed() {
			return
		}
	}
	nothing(t, what, m)
}

// all holds what runs are told as, and made to.
func all(t *testing.T, what string, runs [][]api.Cell) {
	t.Helper()
	holds(t, what, merge.New(runs), plainly(runs))
	same(t, what+": Merge", merge.Merge(runs), merged(runs))
}

func TestExample(t *testing.T) {
	a, b := with(put(5), text("a")), with(put(5), text("b"))
	m := merge.New([][]api.Cell{{a}, {b}})
	left(t, "two of one place", m, 2)
	next(t, "two of one place", m, a, 0, 0)
	nothing(t, "two of one place", m)
	same(t, "the first one's", merge.Merge([][]api.Cell{{a}, {b}}), []api.Cell{a})
	same(t, "the other one's", merge.Merge([][]api.Cell{{b}, {a}}), []api.Cell{b})
}

func TestNothing(t *testing.T) {
	for _, runs := range [][][]api.Cell{nil, {}, {nil}, {{}}, {nil, {}, nil}, {{{}}}, {nil, {{}}, {put(-1), put(-2)}}} {
		nothing(t, "nothing", merge.New(runs))
		if l := merge.Merge(runs); len(l) != 0 {
			t.Error(l)
		}
		m := merge.New(runs)
		m.Skip(put(5))
		m.Skip(api.Cell{})
		nothing(t, "skipped", m)
	}
	// None is made by the package here, but it has nothing either.
	var m merge.Merger
	m.Skip(put(5))
	nothing(t, "noughts", &m)
}

func TestNext(t *testing.T) {
	m := merge.New([][]api.Cell{puts(8, 5), nil, told(puts(9, 5, 2), "x"), puts(7), told(puts(5, 2, 1), "y")})
	left(t, "New", m, 9)
	next(t, "9", m, with(put(9), text("x")), 2, 8)
	next(t, "8", m, put(8), 0, 7)
	next(t, "7", m, put(7), 3, 6)
	next(t, "5 of three", m, put(5), 0, 3)
	next(t, "2 of two", m, with(put(2), text("x")), 2, 1)
	next(t, "1", m, with(put(1), text("y")), 4, 0)
	nothing(t, "the end", m)
	// Those of one place are of one row, family, qualifier, time and kind.
	l := []api.Cell{at(api.CColumn, "r", "f", "q", 5), at(api.CCell, "r", "f", "q", 5), put(5), put(4)}
	m = merge.New([][]api.Cell{l[3:], l[2:3], l[1:2], l[:1]})
	for i, c := range l {
		next(t, "a kind", m, c, 3-i, 3-i)
	}
}

func TestOrder(t *testing.T) {
	l := inOrder()
	all(t, "one run", [][]api.Cell{l})
	same(t, "one run", merge.Merge([][]api.Cell{l}), l)
	for i := range l {
		first, second := told(l[:i], "first"), told(l[i:], "second")
		all(t, "one behind the other", [][]api.Cell{first, second})
		all(t, "one ahead of the other", [][]api.Cell{second, first})
		all(t, "the first ones twice", [][]api.Cell{first, l})
		all(t, "the last ones twice", [][]api.Cell{l, second})
		all(t, "one twice", [][]api.Cell{nil, l[i : i+1], told(l, "other")})
		all(t, "all but one", [][]api.Cell{slices.Delete(slices.Clone(l), i, i+1), told(l, "other")})
	}
	var ones [][]api.Cell
	for i := range l {
		ones = append(ones, l[i:i+1])
	}
	r := rand.New(rand.NewSource(10))
	for range 100 {
		all(t, "one each", ones)
		same(t, "one each", merge.Merge(ones), l)
		r.Shuffle(len(ones), func(i, k int) { ones[i], ones[k] = ones[k], ones[i] })
	}
}

// Of a run that is none the longest beginning that is one is taken.
func TestBeginnings(t *testing.T) {
	l := inOrder()
	taken := func(what string, run, want []api.Cell) {
		t.Helper()
		left(t, what, merge.New([][]api.Cell{run}), len(want))
		same(t, what, merge.Merge([][]api.Cell{run}), want)
		all(t, what, [][]api.Cell{run})
		all(t, what+", and others", [][]api.Cell{told(l[3:9], "x"), run, told(l, "y")})
	}
	for i := range l {
		for _, w := range wrong() {
			taken("a wrong one between", slices.Insert(slices.Clone(l), i, w), l[:i])
		}
		taken("one twice", slices.Insert(slices.Clone(l), i, l[i]), l[:i+1])
		taken("one twice, with another value", slices.Insert(slices.Clone(l), i+1, told(l, "x")[i]), l[:i+1])
		for k := range i {
			taken("an earlier one again", slices.Insert(slices.Clone(l), i+1, l[k]), l[:i+1])
			taken("a later one ahead", slices.Insert(slices.Clone(l), k, l[i]), slices.Insert(slices.Clone(l[:k]), k, l[i]))
		}
	}
	for _, w := range wrong() {
		taken("a wrong one alone", []api.Cell{w}, nil)
		taken("a wrong one behind", append(puts(6, 5, 4), w), puts(6, 5, 4))
	}
	taken("an earlier time", puts(7, 8), puts(7))
	taken("one that would go on behind", puts(7, 6, 9, 5, 4), puts(7, 6))
}

// Runs that are none count among the runs.
func TestFrom(t *testing.T) {
	m := merge.New([][]api.Cell{nil, {{}}, {}, puts(5, 5), puts(3, 4, 2), {put(-1)}, puts(4)})
	left(t, "New", m, 3)
	next(t, "5", m, put(5), 3, 2)
	next(t, "4", m, put(4), 6, 1)
	next(t, "3", m, put(3), 4, 0)
	nothing(t, "the end", m)
}

func TestSkip(t *testing.T) {
	for _, x := range []struct {
		what string
		c    api.Cell
		left int
		next int
		from int
	}{
		{"its own place", put(7), 5, 7, 0},
		{"another value", with(put(7), text("x")), 5, 7, 0},
		{"a wrong value", with(put(7), api.Value{Kind: 99, N: -1, S: "\xff"}), 5, 7, 0},
		{"that of the second one alone", put(8), 6, 8, 1},
		{"between", put(6), 3, 5, 0},
		{"the last one's", put(4), 1, 4, 1},
		{"ahead of all", put(10), 7, 9, 0},
		{"the first one's", put(9), 7, 9, 0},
		{"a time that none may have", put(math.MaxInt), 7, 9, 0},
		{"a greater kind", at(api.CCell, "r", "f", "q", 7), 5, 7, 0},
		{"a lower kind", at(0, "r", "f", "q", 7), 3, 5, 0},
		{"the greatest kind", at(math.MaxInt, "r", "f", "q", 7), 5, 7, 0},
		{"the lowest kind", at(math.MinInt, "r", "f", "q", 7), 3, 5, 0},
		{"a family's", at(api.CFamily, "r", "f", "", 0), 7, 9, 0},
		{"a family's with a qualifier", at(api.CFamily, "r", "f", "z", 0), 7, 9, 0},
		{"an earlier qualifier", at(api.CPut, "r", "f", "", 0), 7, 9, 0},
		{"no family", at(api.CPut, "r", "", "z", 0), 7, 9, 0},
		{"a family that none may have", at(api.CPut, "r", "F", "z", 0), 7, 9, 0},
		{"no row", at(api.CPut, "", "z", "z", 0), 7, 9, 0},
		{"an earlier row", at(api.CPut, "q\xff", "z", "z", 0), 7, 9, 0},
		{"noughts", api.Cell{}, 7, 9, 0},
	} {
		m := merge.New([][]api.Cell{puts(9, 7, 5), told(puts(8, 7, 5, 4), "x")})
		// A second time there is nothing to pass over.
		for range 2 {
			m.Skip(x.c)
			left(t, x.what, m, x.left)
		}
		c, from, ok := m.Next()
		if !ok || c.Time != x.next || from != x.from {
			t.Errorf("%s: %v, %d, %v", x.what, c, from, ok)
		}
	}
	for _, c := range []api.Cell{
		put(3), put(-1), put(math.MinInt), at(0, "r", "f", "q", 4), at(api.CPut, "r", "f", "q\x00", 9), at(api.CPut, "r", "f\x00", "", 9),
		at(api.CFamily, "r", "g", "", 9), at(api.CFamily, "r\x00", "", "", math.MaxInt), at(api.CPut, many("r", 1000), "f", "q", 9),
	} {
		m := merge.New([][]api.Cell{puts(9, 7, 5), puts(8, 7, 5, 4)})
		m.Skip(c)
		nothing(t, "behind all", m)
		m.Skip(api.Cell{})
		nothing(t, "and back", m)
	}
}

// What was told, or passed over, doesn't come again, and what is told behind a
// Skip goes on from there.
func TestSkipMeanwhile(t *testing.T) {
	m := merge.New([][]api.Cell{puts(9, 6, 3), told(puts(9, 8, 6, 2), "x"), puts(1)})
	next(t, "9", m, put(9), 0, 6)
	m.Skip(put(9))
	left(t, "what was told", m, 6)
	m.Skip(put(6))
	left(t, "6", m, 5)
	m.Skip(put(8))
	left(t, "back", m, 5)
	next(t, "6", m, put(6), 0, 3)
	m.Skip(put(6))
	left(t, "what was told", m, 3)
	m.Skip(put(2))
	left(t, "2", m, 2)
	next(t, "2", m, with(put(2), text("x")), 1, 1)
	next(t, "1", m, put(1), 2, 0)
	nothing(t, "the end", m)
}

func TestSplit(t *testing.T) {
	at := func(row string) api.Cell { return at(api.CPut, row, "f", "q", 5) }
	rows := []string{"m", "a", "", "l\xff", "m\x00", "\xff", "a", "n", "lz", "\x00", many("m", 99)}
	var l []api.Cell
	for _, r := range rows {
		l = append(l, at(r))
	}
	cells := func(rows ...string) []api.Cell {
		var l []api.Cell
		for _, r := range rows {
			l = append(l, at(r))
		}
		return l
	}
	for _, x := range []struct {
		at     string
		below  []api.Cell
		others []api.Cell
	}{
		{api.Split, cells("a", "", "l\xff", "a", "lz", "\x00"), cells("m", "m\x00", "\xff", "n", many("m", 99))},
		{"", nil, l},
		{"\x00", cells(""), cells("m", "a", "l\xff", "m\x00", "\xff", "a", "n", "lz", "\x00", many("m", 99))},
		{"m\x00", cells("m", "a", "", "l\xff", "a", "lz", "\x00"), cells("m\x00", "\xff", "n", many("m", 99))},
		{many("m", 100), cells("m", "a", "", "l\xff", "m\x00", "a", "lz", "\x00", many("m", 99)), cells("\xff", "n")},
		{"\xff", cells("m", "a", "", "l\xff", "m\x00", "a", "n", "lz", "\x00", many("m", 99)), cells("\xff")},
		{"\xff\x00", l, nil},
	} {
		below, others := merge.Split(l, x.at)
		same(t, x.at+", below", below, x.below)
		same(t, x.at+", others", others, x.others)
	}
	for _, l := range [][]api.Cell{nil, {}} {
		if below, others := merge.Split(l, "m"); len(below) != 0 || len(others) != 0 {
			t.Error(below, others)
		}
	}
}

// Split asks for no right cells and no order: all are there, as they stand.
func TestSplitOfAnyCells(t *testing.T) {
	w := wrong()
	for _, c := range w {
		for _, s := range []string{"", "\x00", "m", "r", "r\x00", many("r", 17), "s"} {
			below, others := merge.Split([]api.Cell{c, c}, s)
			if c.Row < s {
				same(t, s, below, []api.Cell{c, c})
				same(t, s, others, nil)
			} else {
				same(t, s, below, nil)
				same(t, s, others, []api.Cell{c, c})
			}
		}
	}
	below, others := merge.Split(slices.Concat(puts(5, 7, 5), w, []api.Cell{with(put(5), text("x"))}), "s")
	same(t, "as they stand", below, slices.Concat(puts(5, 7, 5), w, []api.Cell{with(put(5), text("x"))}))
	same(t, "no others", others, nil)
}

// draw makes cells of few places, so that many meet; mostly they are a run.
func draw(pick func(int) int) []api.Cell {
	var l []api.Cell
	for range pick(12) {
		c := api.Cell{Row: []string{"a", "a\x00", "b"}[pick(3)], Fam: []string{"f", "g"}[pick(2)], Kind: 1 + pick(4), Time: pick(3)}
		if c.Kind != api.CFamily {
			c.Qual = []string{"", "q"}[pick(2)]
		}
		if c.Kind == api.CPut {
			c.Val = whole(pick(250))
		}
		l = append(l, c)
	}
	if pick(4) > 0 {
		slices.SortFunc(l, codec.Order)
		if pick(4) > 0 {
			l = slices.CompactFunc(l, samePlace)
		}
	}
	if len(l) > 0 && pick(8) == 0 {
		l[pick(len(l))] = wrong()[pick(len(wrong()))]
	}
	return l
}

// asTheChapterSays does what is picked, beside the plain runs.
func asTheChapterSays(t *testing.T, pick func(int) int) {
	t.Helper()
	var runs [][]api.Cell
	for range pick(7) {
		runs = append(runs, draw(pick))
	}
	same(t, "Merge", merge.Merge(runs), merged(runs))
	m, p := merge.New(runs), plainly(runs)
	for range pick(20) {
		if pick(3) > 0 {
			wc, wfrom, wok := p.next()
			if c, from, ok := m.Next(); c != wc || from != wfrom || ok != wok {
				t.Errorf("Next: %v, %d, %v, not %v, %d, %v", c, from, ok, wc, wfrom, wok)
			}
		} else {
			c := append(draw(pick), wrong()[pick(len(wrong()))])[0]
			m.Skip(c)
			p.skip(c)
		}
		left(t, "meanwhile", m, p.left())
	}
	holds(t, "the rest", m, p)
	if t.Failed() {
		t.Fatal(runs)
	}
}

func TestAsTheChapterSays(t *testing.T) {
	r := rand.New(rand.NewSource(1010))
	for range 4000 {
		asTheChapterSays(t, r.Intn)
	}
}

func FuzzAsTheChapterSays(f *testing.F) {
	f.Add([]byte("\x02\x03\x00\x00\x00\x01\x01\x00\x01\x00\x00\x02\x05\x01\x02"))
	f.Add([]byte("\x06\x0b\x01\x01\x00\x02\x01\x07\x02\x00\x03\x01\x01\x01\x09"))
	f.Fuzz(func(t *testing.T, b []byte) {
		asTheChapterSays(t, func(n int) int {
			if len(b) == 0 {
				return 0
			}
			x := int(b[0]) % n
			b = b[1:]
			return x
		})
	})
}

func TestAnyArguments(t *testing.T) {
	numbers := []int{math.MinInt, math.MinInt + 1, -1, 0, 1, 2, 3, 4, 5, api.MaxClock, api.MaxClock + 1, math.MaxInt - 1, math.MaxInt}
	texts := []string{"", "f", "\x00", "\xff", many("x", 1<<12)}
	runs := [][]api.Cell{nil, inOrder(), {put(5)}}
	for _, s := range texts {
		for _, n := range numbers {
			for _, kind := range numbers {
				c := api.Cell{Row: s, Fam: s, Qual: s, Time: n, Kind: kind, Val: api.Value{Kind: n, N: n, S: s}}
				runs = append(runs, []api.Cell{c, put(5), c}, []api.Cell{with(c, api.Value{}), c}, []api.Cell{with(c, whole(n)), c})
				some := runs[max(len(runs)-9, 0):]
				m, p := merge.New(some), plainly(some)
				m.Skip(c)
				p.skip(c)
				holds(t, "any", m, p)
				below, others := merge.Split([]api.Cell{c, put(5)}, s)
				if len(below)+len(others) != 2 || slices.Contains(below, c) {
					t.Errorf("Split at %q: %v, %v", s, below, others)
				}
			}
		}
	}
	all(t, "any", runs)
}

func TestArgumentsStay(t *testing.T) {
	l := append(inOrder(), puts(3, 2, 1)...)
	l = l[:len(l)-3]
	other := append(puts(9, 8, 9, 8), put(77))[:4]
	runs := [][]api.Cell{l, other, nil, l[3:9], {put(4)}}[:4]
	before, beforeOther := slices.Clone(l[:cap(l)]), slices.Clone(other[:cap(other)])
	merge.Merge(runs)
	m := merge.New(runs)
	m.Skip(l[2])
	for range 9 {
		m.Next()
	}
	m.Skip(put(8))
	merge.Split(l, "a")
	merge.Split(other, "")
	same(t, "the cells, and those behind", l[:cap(l)], before)
	same(t, "a run that is none", other[:cap(other)], beforeOther)
	if len(runs[0]) != len(l) || len(runs[1]) != 4 || runs[2] != nil || len(runs[3]) != 6 {
		t.Error("the runs were changed")
	}
	same(t, "the run behind", runs[:5][4], puts(4))
}

// What was handed in isn't kept: it may be changed at once.
func TestNothingIsKept(t *testing.T) {
	l, other := inOrder(), told(inOrder()[4:12], "x")
	runs := [][]api.Cell{other, l, puts(5)}
	want := plainly(runs)
	m := merge.New(runs)
	clear(l)
	for i := range other {
		other[i] = put(api.MaxClock - i)
	}
	runs[2] = nil
	holds(t, "changed at once", m, want)
}

func heap() int {
	var stats runtime.MemStats
	runtime.GC()
	runtime.ReadMemStats(&stats)
	return int(stats.HeapAlloc)
}

// A text may be a piece of a longer one, which isn't kept for it.
func TestNoLongTextIsKept(t *testing.T) {
	const long = 1 << 24
	for i, set := range []func(c *api.Cell, s string){
		func(c *api.Cell, s string) { c.Row = s },
		func(c *api.Cell, s string) { c.Fam = s },
		func(c *api.Cell, s string) { c.Qual = s },
		func(c *api.Cell, s string) { c.Val.S = s },
	} {
		before := heap()
		c := with(at(api.CPut, "q", "q", "q", 5), text("q"))
		want := c
		set(&c, many("q", long)[9:10])
		m := merge.New([][]api.Cell{{c}})
		// Now none but the merger has it.
		c = api.Cell{}
		if n := heap() - before; n > long/2 {
			t.Errorf("text %d: %d bytes are kept", i, n)
		}
		next(t, "a piece", m, want, 0, 0)
	}
}

func TestAnswersAreNew(t *testing.T) {
	spoil := func(l []api.Cell) {
		l = l[:cap(l)]
		for i := range l {
			l[i] = at(api.CPut, "spoilt", "f", "q", 1)
		}
	}
	l := inOrder()
	for _, runs := range [][][]api.Cell{{l}, {nil, l}, {l, l}, {l[:5], l[5:]}} {
		first, second := merge.Merge(runs), merge.Merge(runs)
		m := merge.New(runs)
		spoil(first)
		same(t, "another answer", second, inOrder())
		same(t, "what was handed in", l, inOrder())
		holds(t, "a merger", m, plainly(runs))
	}
	for _, s := range []string{"", "\x00\x00", "a", "a\x00", "b", "\xff", many("\xff", 17)} {
		n := slices.IndexFunc(l, func(c api.Cell) bool { return c.Row >= s })
		if n < 0 {
			n = len(l)
		}
		below, others := merge.Split(l, s)
		spoil(below)
		same(t, "the others", others, l[n:])
		again, _ := merge.Split(l, s)
		spoil(others)
		same(t, "those below", again, l[:n])
		same(t, "what was handed in", l, inOrder())
	}
}

// Many runs don't take a look at each for each cell.
func TestManyRuns(t *testing.T) {
	const count = 1 << 16
	for _, x := range []struct {
		what string
		at   func(i int) int
	}{
		{"rising", func(i int) int { return i }},
		{"falling", func(i int) int { return count - 1 - i }},
		{"in strides", func(i int) int { return i * 7919 % count }},
	} {
		var runs [][]api.Cell
		for i := range count {
			runs = append(runs, puts(x.at(i)))
		}
		l := merge.Merge(runs)
		for i, c := range l {
			if c != put(count-1-i) {
				t.Fatalf("%s: %v at %d", x.what, c, i)
			}
		}
		if len(l) != count {
			t.Errorf("%s: %d cells", x.what, len(l))
		}
		m := merge.New(runs)
		for i := range count {
			m.Skip(put(count - 1 - i))
			if n := m.Left(); n != count-i {
				t.Fatalf("%s: Left %d at %d", x.what, n, i)
			}
			m.Next()
		}
		nothing(t, x.what, m)
	}
	var runs [][]api.Cell
	for range count {
		runs = append(runs, puts(7, 5))
	}
	m := merge.New(runs)
	next(t, "of one place", m, put(7), 0, count)
	next(t, "of one place", m, put(5), 0, 0)
	nothing(t, "of one place", m)
}

// A Skip doesn't go over all that it passes, nor over what stays.
func TestManySkips(t *testing.T) {
	const count = 1 << 18
	var l []api.Cell
	for i := range count {
		l = append(l, put(count-i))
	}
	m := merge.New([][]api.Cell{l, l[:9], l[count/2:]})
	for range count {
		m.Skip(put(count))
		m.Skip(api.Cell{})
	}
	next(t, "back", m, put(count), 0, count+7+count/2)
	for n := count - 1; n > 0; n-- {
		m.Skip(put(n))
	}
	next(t, "the last one", m, put(1), 0, 0)
	nothing(t, "the end", m)
}
