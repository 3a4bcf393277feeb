package mem_test

import (
	"maps"
	"math"
	"math/rand"
	"slices"
	"strings"
	"testing"

	"joist/api"
	"joist/codec"
	"joist/mem"
)

func whole(n int) api.Value       { return api.Value{Kind: api.VInt, N: n} }
func text(s string) api.Value     { return api.Value{Kind: api.VText, S: s} }
func many(s string, n int) string { return strings.Repeat(s, n) }

// at is a cell of a column; a put's value is its time.
func at(kind int, row, fam, qual string, time int) api.Cell {
	c := api.Cell{Row: row, Fam: fam, Qual: qual, Time: time, Kind: kind}
	if kind == api.CPut {
		c.Val = whole(time)
	}
	return c
}

func put(time int) api.Cell { return at(api.CPut, "r", "f", "q", time) }

func with(c api.Cell, v api.Value) api.Cell {
	c.Val = v
	return c
}

// wrong are cells that aren't right.
func wrong() []api.Cell {
	return []api.Cell{
		{},
		at(api.CPut, "", "f", "q", 5),
		at(api.CPut, many("r", api.MaxRow+1), "f", "q", 5),
		at(api.CPut, "r", "", "q", 5),
		at(api.CPut, "r", "F", "q", 5),
		at(api.CPut, "r", "f\x00", "q", 5),
		at(api.CPut, "r", many("f", api.MaxName+1), "q", 5),
		at(api.CPut, "r", "f", many("q", api.MaxQual+1), 5),
		put(-1), put(math.MinInt), put(api.MaxClock + 1), put(math.MaxInt),
		at(api.CColumn, "r", "f", "q", api.MaxClock+1),
		at(api.CFamily, "r", "f", "", -1),
		with(put(5), api.Value{}),
		with(put(5), text("\xff")),
		with(put(5), text(many("x", api.MaxData+1))),
		with(put(5), api.Value{Kind: api.VBool, N: 2}),
		with(at(api.CColumn, "r", "f", "q", 5), whole(9)),
		with(at(api.CCell, "r", "f", "q", 5), whole(5)),
		with(at(api.CFamily, "r", "f", "", 5), whole(9)),
		at(api.CFamily, "r", "f", "q", 5),
		at(0, "r", "f", "q", 5), at(5, "r", "f", "q", 5), at(-1, "r", "f", "q", 5), at(api.CPut+256, "r", "f", "q", 5),
		at(math.MinInt, "r", "f", "q", 5), at(math.MaxInt, "r", "f", "q", 5),
	}
}

// inOrder are right cells, in order, no two of one place.
func inOrder() []api.Cell {
	return []api.Cell{
		at(api.CPut, "\x00", "f", "q", 1),
		at(api.CPut, "\x00\x00", "f", "q", 1),
		at(api.CFamily, "a", "f", "", 9),
		at(api.CFamily, "a", "f", "", 3),
		at(api.CColumn, "a", "f", "", 4),
		at(api.CCell, "a", "f", "", 4),
		at(api.CPut, "a", "f", "", 4),
		at(api.CPut, "a", "f", "", 0),
		at(api.CPut, "a", "f", "\x00", 7),
		at(api.CPut, "a", "f", "\x00\x01", 7),
		at(api.CPut, "a", "f", "q", 10),
		at(api.CPut, "a", "f", "q", 9),
		at(api.CCell, "a", "f", "q", 8),
		at(api.CPut, "a", "f", many("q", api.MaxQual), 9),
		at(api.CFamily, "a", "f0", "", 1),
		at(api.CPut, "a", "f0", "q", 9),
		at(api.CFamily, "a\x00", "f", "", 0),
		at(api.CPut, "a\x00", "f", "q", api.MaxClock),
		at(api.CPut, "aa", "0", "", 1),
		at(api.CPut, "b", many("z", api.MaxName), "q", 1),
		at(api.CFamily, "c", "a", "", api.MaxClock),
		at(api.CPut, "\xff", "a", "q", 1),
		at(api.CPut, many("\xff", api.MaxRow), "a", "q", 1),
	}
}

func same(t *testing.T, what string, got, want []api.Cell) {
	t.Helper()
	if !slices.Equal(got, want) {
		t.Errorf("%s: %v, not %v", what, got, want)
	}
}

// filled is a table into which cells were put.
func filled(t *testing.T, l []api.Cell) *mem.Mem {
	t.Helper()
	m := mem.New()
	for _, c := range l {
		if !m.Put(c) {
			t.Fatalf("Put of %v: false", c)
		}
	}
	return m
}

// plain is a table told plainly: by their keys the cells.
type plain map[string]api.Cell

func (p plain) put(c api.Cell) bool {
	k, ok := codec.Key(c)
	if ok {
		p[string(k)] = c
	}
	return ok
}

// all are the cells in the order of their keys, which is the cells' order.
func (p plain) all() []api.Cell {
	var l []api.Cell
	for _, k := range slices.Sorted(maps.Keys(p)) {
		l = append(l, p[k])
	}
	return l
}

func (p plain) bytes() int {
	n := 0
	for _, c := range p {
		b, _ := codec.Encode(c)
		n += len(b)
	}
	return n
}

// samePlace tells it by all that a place is.
func samePlace(a, b api.Cell) bool {
	a.Val, b.Val = api.Value{}, api.Value{}
	return a == b
}

func get(l []api.Cell, c api.Cell) (api.Cell, bool) {
	i := slices.IndexFunc(l, func(x api.Cell) bool { return samePlace(x, c) })
	if i < 0 {
		return api.Cell{}, false
	}
	return l[i], true
}

func from(l []api.Cell, c api.Cell) []api.Cell {
	return slices.DeleteFunc(slices.Clone(l), func(x api.Cell) bool { return codec.Order(x, c) < 0 })
}

func row(l []api.Cell, r string) []api.Cell {
	return slices.DeleteFunc(slices.Clone(l), func(x api.Cell) bool { return x.Row != r })
}

// asked are cells that a table may be asked about: all fields, also wrong ones,
// and places just ahead of and behind those of some cells.
func asked(l []api.Cell) []api.Cell {
	out := slices.Concat(l, wrong(), inOrder())
	for _, c := range l {
		for _, change := range []func(*api.Cell){
			func(c *api.Cell) { c.Row += "\x00" },
			func(c *api.Cell) { c.Row = c.Row[:len(c.Row)-1] },
			func(c *api.Cell) { c.Fam += "\x00" },
			func(c *api.Cell) { c.Fam = "" },
			func(c *api.Cell) { c.Fam = "\xff" },
			func(c *api.Cell) { c.Qual += "\x00" },
			func(c *api.Cell) { c.Qual = "" },
			func(c *api.Cell) { c.Qual = many("\xff", 99) },
			func(c *api.Cell) { c.Time++ },
			func(c *api.Cell) { c.Time-- },
			func(c *api.Cell) { c.Time = math.MinInt },
			func(c *api.Cell) { c.Time = math.MaxInt },
			func(c *api.Cell) { c.Kind++ },
			func(c *api.Cell) { c.Kind-- },
			func(c *api.Cell) { c.Kind = math.MinInt },
			func(c *api.Cell) { c.Kind = math.MaxInt },
			func(c *api.Cell) { c.Kind = api.CFamily },
			func(c *api.Cell) { c.Val = api.Value{} },
			func(c *api.Cell) { c.Val = text("\xff another value") },
		} {
			changed := c
			change(&changed)
			out = append(out, changed)
		}
	}
	return out
}

// holds holds all that a table tells against the cells that are to be there.
func holds(t *testing.T, m *mem.Mem, p plain) {
	t.Helper()
	l := p.all()
	same(t, "All", slices.Collect(m.All()), l)
	if m.Count() != len(p) || m.Bytes() != p.bytes() {
		t.Errorf("Count %d, Bytes %d, not %d, %d", m.Count(), m.Bytes(), len(p), p.bytes())
	}
	for _, c := range asked(l) {
		got, ok := m.Get(c)
		if want, is := get(l, c); got != want || ok != is {
			t.Errorf("Get of %v: %v, %v, not %v, %v", c, got, ok, want, is)
		}
		same(t, "From", slices.Collect(m.From(c)), from(l, c))
		same(t, "Row", m.Row(c.Row), row(l, c.Row))
	}
}

func TestNew(t *testing.T) {
	m := mem.New()
	holds(t, m, plain{})
	if m.Count() != 0 || m.Bytes() != 0 || len(m.Row("r")) != 0 {
		t.Error(m.Count(), m.Bytes(), m.Row("r"))
	}
	for c := range m.All() {
		t.Error(c)
	}
	for c := range m.From(put(5)) {
		t.Error(c)
	}
	if c, ok := m.Get(put(5)); ok || c != (api.Cell{}) {
		t.Error(c, ok)
	}
	// Each one is a table of its own.
	m.Put(put(5))
	holds(t, mem.New(), plain{})
}

func TestPut(t *testing.T) {
	for _, c := range inOrder() {
		m := filled(t, []api.Cell{c})
		b, _ := codec.Encode(c)
		if got, ok := m.Get(c); got != c || !ok || m.Count() != 1 || m.Bytes() != len(b) {
			t.Errorf("%v: %v, %v, Count %d, Bytes %d", c, got, ok, m.Count(), m.Bytes())
		}
		same(t, "All", slices.Collect(m.All()), []api.Cell{c})
		same(t, "Row", m.Row(c.Row), []api.Cell{c})
	}
}

func TestPutTwice(t *testing.T) {
	a, b, long := with(put(5), text("a")), with(put(5), text("b")), with(put(5), text(many("x", api.MaxData)))
	for _, x := range []struct {
		l    []api.Cell
		want []api.Cell
	}{
		{[]api.Cell{a, b}, []api.Cell{b}},
		{[]api.Cell{b, a}, []api.Cell{a}},
		{[]api.Cell{a, long}, []api.Cell{long}},
		{[]api.Cell{long, a}, []api.Cell{a}},
		{[]api.Cell{long, with(put(5), api.Value{Kind: api.VBool}), b}, []api.Cell{b}},
		{[]api.Cell{put(4), a, put(6), long, put(4)}, []api.Cell{put(6), long, put(4)}},
		{[]api.Cell{at(api.CFamily, "r", "f", "", 5), at(api.CFamily, "r", "f", "", 5)}, []api.Cell{at(api.CFamily, "r", "f", "", 5)}},
		// Another kind is another place.
		{[]api.Cell{a, at(api.CCell, "r", "f", "q", 5), at(api.CColumn, "r", "f", "q", 5), b}, []api.Cell{at(api.CColumn, "r", "f", "q", 5), at(api.CCell, "r", "f", "q", 5), b}},
	} {
		m, p := filled(t, x.l), plain{}
		for _, c := range x.want {
			p.put(c)
		}
		same(t, "all", slices.Collect(m.All()), x.want)
		if m.Count() != len(x.want) {
			t.Errorf("Count %d, not %d", m.Count(), len(x.want))
		}
		holds(t, m, p)
	}
}

func TestPutOfWrongCells(t *testing.T) {
	for _, l := range [][]api.Cell{nil, {put(5)}, inOrder()} {
		m, p := filled(t, l), plain{}
		for _, c := range l {
			p.put(c)
		}
		for _, w := range wrong() {
			if m.Put(w) {
				t.Errorf("Put of %v: true", w)
			}
			if got, ok := m.Get(w); ok != slices.ContainsFunc(l, func(c api.Cell) bool { return samePlace(c, w) }) {
				t.Errorf("Get of %v: %v, %v", w, got, ok)
			}
		}
		holds(t, m, p)
	}
	// A wrong value doesn't take a right one's place.
	m := filled(t, []api.Cell{put(5)})
	if m.Put(with(put(5), text("\xff"))) {
		t.Error("a wrong value")
	}
	same(t, "all", slices.Collect(m.All()), []api.Cell{put(5)})
}

// Places are told by all but the value.
func TestGet(t *testing.T) {
	m := filled(t, append(inOrder(), put(5)))
	for _, v := range []api.Value{{}, whole(77), text("x"), text("\xff"), {Kind: -1, N: -1, S: "x"}} {
		if c, ok := m.Get(with(put(5), v)); c != put(5) || !ok {
			t.Error(v, c, ok)
		}
	}
	for _, c := range []api.Cell{
		put(4), put(6),
		at(api.CPut, "r\x00", "f", "q", 5), at(api.CPut, "s", "f", "q", 5), at(api.CPut, "", "f", "q", 5),
		at(api.CPut, "r", "g", "q", 5), at(api.CPut, "r", "", "q", 5), at(api.CPut, "r", "f", "", 5), at(api.CPut, "r", "f", "q\x00", 5),
		at(api.CCell, "r", "f", "q", 5), at(api.CColumn, "r", "f", "q", 5), at(api.CFamily, "r", "f", "q", 5), at(api.CFamily, "r", "f", "", 5),
		at(0, "r", "f", "q", 5), at(5, "r", "f", "q", 5), {},
	} {
		if got, ok := m.Get(c); ok || got != (api.Cell{}) {
			t.Errorf("%v: %v, %v", c, got, ok)
		}
	}
}

func TestOrder(t *testing.T) {
	want := inOrder()
	p := plain{}
	for _, c := range want {
		p.put(c)
	}
	same(t, "the plain one", p.all(), want)
	holds(t, filled(t, want), p)
	l := slices.Clone(want)
	slices.Reverse(l)
	holds(t, filled(t, l), p)
	r := rand.New(rand.NewSource(7))
	for range 50 {
		r.Shuffle(len(l), func(i, k int) { l[i], l[k] = l[k], l[i] })
		m := filled(t, l)
		same(t, "shuffled", slices.Collect(m.All()), want)
		for i, c := range want {
			same(t, "from", slices.Collect(m.From(c)), want[i:])
		}
	}
}

func TestFrom(t *testing.T) {
	l := []api.Cell{put(9), put(7), put(5)}
	m := filled(t, l)
	for _, x := range []struct {
		what string
		c    api.Cell
		want []api.Cell
	}{
		{"its own place", put(7), l[1:]},
		{"another value", with(put(7), text("x")), l[1:]},
		{"a wrong value", with(put(7), api.Value{Kind: 99}), l[1:]},
		{"between", put(8), l[1:]},
		{"ahead of all", put(10), l},
		{"a time that none may have", put(math.MaxInt), l},
		{"behind all", put(4), nil},
		{"a time below 0", put(-1), nil},
		{"the last one", put(5), l[2:]},
		{"a greater kind", at(api.CCell, "r", "f", "q", 7), l[1:]},
		{"a lower kind", at(0, "r", "f", "q", 7), l[2:]},
		{"the greatest kind", at(math.MaxInt, "r", "f", "q", 7), l[1:]},
		{"the lowest kind", at(math.MinInt, "r", "f", "q", 7), l[2:]},
		{"a family's", at(api.CFamily, "r", "f", "", 0), l},
		{"a family's with a qualifier", at(api.CFamily, "r", "f", "z", 0), l},
		{"no qualifier", at(api.CPut, "r", "f", "", 0), l},
		{"a longer qualifier", at(api.CPut, "r", "f", "q\x00", 9), nil},
		{"no family", at(api.CPut, "r", "", "z", 0), l},
		{"a family that none may have", at(api.CPut, "r", "F", "z", 0), l},
		{"another one", at(api.CPut, "r", "f\x00", "", 0), nil},
		{"no row", at(api.CPut, "", "z", "z", 0), l},
		{"an earlier row", at(api.CPut, "q\xff", "z", "z", 0), l},
		{"a later row", at(api.CFamily, "r\x00", "", "", math.MaxInt), nil},
		{"a long row", at(api.CPut, many("r", 1000), "f", "q", 9), nil},
		{"noughts", api.Cell{}, l},
	} {
		same(t, x.what, slices.Collect(m.From(x.c)), x.want)
	}
}

func TestRow(t *testing.T) {
	m := filled(t, inOrder())
	for _, x := range []struct {
		row   string
		first int
		end   int
	}{
		{"", 0, 0}, {"\x00", 0, 1}, {"\x00\x00", 1, 2}, {"\x00\x00\x00", 0, 0}, {"\x00\x01", 0, 0},
		{"a", 2, 16}, {"a\x00", 16, 18}, {"a\x00\x00", 0, 0}, {"a\x01", 0, 0}, {"aa", 18, 19}, {"a ", 0, 0}, {"A", 0, 0},
		{"b", 19, 20}, {"c", 20, 21}, {"d", 0, 0}, {"\xfe", 0, 0}, {"\xff", 21, 22}, {"\xff\xff", 0, 0},
		{many("\xff", api.MaxRow), 22, 23}, {many("\xff", api.MaxRow+1), 0, 0}, {many("a", 1<<16), 0, 0},
	} {
		same(t, x.row, m.Row(x.row), inOrder()[x.first:x.end])
	}
}

func TestCountAndBytes(t *testing.T) {
	m, p := mem.New(), plain{}
	for _, n := range []int{1, api.MaxData, 0, 7, 7, 31} {
		for _, time := range []int{3, 9, 6, 9} {
			c := with(put(time), text(many("x", n)))
			m.Put(c)
			p.put(c)
			if m.Count() != len(p) || m.Bytes() != p.bytes() {
				t.Errorf("Count %d, Bytes %d, not %d, %d", m.Count(), m.Bytes(), len(p), p.bytes())
			}
			m.Put(with(c, text("\xff")))
			m.Put(with(c, text(many("x", api.MaxData+1))))
		}
	}
	// A row, a family and a qualifier of one byte with two behind each, eight of
	// the time, one of the kind; of a put its value's too.
	m = filled(t, []api.Cell{at(api.CColumn, "r", "f", "q", 5), at(api.CFamily, "r", "f", "", 5)})
	if m.Count() != 2 || m.Bytes() != 18+17 {
		t.Error(m.Count(), m.Bytes())
	}
}

// What is there counts when the cells are gone through, not when it was asked.
func TestIteratorsTellWhatIsThere(t *testing.T) {
	m := mem.New()
	all, later := m.All(), m.From(put(5))
	same(t, "nothing", slices.Collect(all), nil)
	m.Put(put(7))
	m.Put(put(3))
	same(t, "all", slices.Collect(all), []api.Cell{put(7), put(3)})
	same(t, "from 5", slices.Collect(later), []api.Cell{put(3)})
	m.Put(put(5))
	m.Put(put(9))
	m.Put(with(put(3), text("new")))
	for range 3 {
		same(t, "all, again", slices.Collect(all), []api.Cell{put(9), put(7), put(5), with(put(3), text("new"))})
		same(t, "from 5, again", slices.Collect(later), []api.Cell{put(5), with(put(3), text("new"))})
	}
}

func TestIteratorsStop(t *testing.T) {
	l := inOrder()
	m := filled(t, l)
	all := m.All()
	for end := range l {
		var got []api.Cell
		for c := range all {
			if len(got) == end {
				break
			}
			got = append(got, c)
		}
		same(t, "the first ones", got, l[:end])
		n := 0
		m.From(l[end])(func(c api.Cell) bool {
			if c != l[end] {
				t.Error(c)
			}
			n++
			return false
		})
		if n != 1 {
			t.Errorf("told %d times", n)
		}
	}
	// One within the other.
	for a := range all {
		i := slices.Index(l, a)
		k := i
		for b := range m.From(a) {
			if k == len(l) || b != l[k] {
				t.Fatal(a, b)
			}
			k++
		}
		if k != len(l) {
			t.Error(a, k)
		}
	}
}

// toldMeanwhile goes through cells and puts others meanwhile: what was there is
// told, all of it, and nothing but what is there, in order.
func toldMeanwhile(t *testing.T, there []api.Cell, others func(api.Cell) []api.Cell) {
	t.Helper()
	m, p := filled(t, there), plain{}
	for _, c := range there {
		p.put(c)
	}
	var told []api.Cell
	for c := range m.All() {
		told = append(told, c)
		if len(told) > 1000 {
			t.Fatal("no end")
		}
		for _, o := range others(c) {
			if m.Put(o) != p.put(o) {
				t.Errorf("Put of %v", o)
			}
		}
		same(t, "meanwhile", slices.Collect(m.From(c)), from(p.all(), c))
	}
	if !slices.IsSortedFunc(told, codec.Order) {
		t.Errorf("not in order: %v", told)
	}
	for i, c := range told {
		if got, ok := p[string(key(c))]; !ok || !samePlace(got, c) || i > 0 && samePlace(c, told[i-1]) {
			t.Errorf("told %v", c)
		}
	}
	for _, c := range there {
		if _, ok := get(told, c); !ok {
			t.Errorf("not told: %v", c)
		}
	}
	same(t, "afterwards", slices.Collect(m.All()), p.all())
}

func key(c api.Cell) []byte {
	b, _ := codec.Key(c)
	return b
}

func TestPutMeanwhile(t *testing.T) {
	there := inOrder()
	r := rand.New(rand.NewSource(77))
	for _, others := range []func(c api.Cell) []api.Cell{
		func(c api.Cell) []api.Cell { return []api.Cell{c} },
		func(c api.Cell) []api.Cell { return wrong() },
		func(c api.Cell) []api.Cell { return []api.Cell{with(c, text("another value"))} },
		func(c api.Cell) []api.Cell { return []api.Cell{at(api.CPut, "\x00", "0", c.Qual, c.Time)} },
		func(c api.Cell) []api.Cell { return []api.Cell{at(api.CPut, c.Row, c.Fam, c.Qual+"\x01", c.Time)} },
		func(c api.Cell) []api.Cell {
			var l []api.Cell
			for range 9 {
				l = append(l, at(api.CPut, string([]byte{byte(1 + r.Intn(255))}), "f", "q", r.Intn(3)))
			}
			return l
		},
		func(c api.Cell) []api.Cell { return there },
	} {
		toldMeanwhile(t, there, others)
		toldMeanwhile(t, []api.Cell{put(5)}, others)
		toldMeanwhile(t, nil, others)
	}
}

// draw makes a cell of few places, so that many meet; some aren't right.
func draw(pick func(int) int, i int) api.Cell {
	if pick(20) == 0 {
		return wrong()[pick(len(wrong()))]
	}
	kinds := []int{api.CPut, api.CPut, api.CPut, api.CCell, api.CColumn, api.CFamily}
	c := api.Cell{Row: []string{"a", "a\x00", "b"}[pick(3)], Fam: []string{"f", "g"}[pick(2)], Kind: kinds[pick(len(kinds))], Time: pick(6)}
	if c.Kind != api.CFamily {
		c.Qual = []string{"", "q", "q\x00"}[pick(3)]
	}
	if c.Kind == api.CPut {
		c.Val = []api.Value{whole(i), text(many("x", i%33))}[pick(2)]
	}
	return c
}

func TestAsTheChapterSays(t *testing.T) {
	r := rand.New(rand.NewSource(777))
	for range 30 {
		m, p := mem.New(), plain{}
		for i := range r.Intn(150) {
			c := draw(r.Intn, i)
			if m.Put(c) != p.put(c) {
				t.Fatalf("Put of %v", c)
			}
			if m.Count() != len(p) || m.Bytes() != p.bytes() {
				t.Fatalf("Count %d, Bytes %d, not %d, %d", m.Count(), m.Bytes(), len(p), p.bytes())
			}
		}
		holds(t, m, p)
		if t.Failed() {
			return
		}
	}
}

func FuzzAsTheChapterSays(f *testing.F) {
	f.Add([]byte("\x01\x00\x00\x00\x05\x01\x00\x01\x00\x00\x00\x05\x01\x01"))
	f.Add([]byte("\x00\x02\x01\x01\x01\x05\x03\x01\x02\x01\x04\x02\x02"))
	f.Fuzz(func(t *testing.T, b []byte) {
		pick := func(n int) int {
			if len(b) == 0 {
				return 0
			}
			x := int(b[0]) % n
			b = b[1:]
			return x
		}
		m, p := mem.New(), plain{}
		for i := 0; len(b) > 0 && i < 60; i++ {
			c := draw(pick, i)
			if m.Put(c) != p.put(c) {
				t.Fatalf("Put of %v", c)
			}
		}
		holds(t, m, p)
	})
}

func TestAnyArguments(t *testing.T) {
	numbers := []int{math.MinInt, math.MinInt + 1, -1, 0, 1, 2, 3, 4, 5, api.MaxClock, api.MaxClock + 1, math.MaxInt - 1, math.MaxInt}
	texts := []string{"", "f", "\x00", "\xff", many("x", 1<<12)}
	var l []api.Cell
	for _, s := range texts {
		for _, n := range numbers {
			for _, kind := range numbers {
				c := api.Cell{Row: s, Fam: s, Qual: s, Time: n, Kind: kind, Val: api.Value{Kind: n, N: n, S: s}}
				l = append(l, c, with(c, api.Value{}), with(c, whole(n)))
			}
		}
	}
	m, p := mem.New(), plain{}
	for _, c := range l {
		if m.Put(c) != p.put(c) {
			t.Errorf("Put of %v", c)
		}
	}
	all := p.all()
	if len(all) == 0 {
		t.Fatal("no right cells")
	}
	for _, c := range l {
		got, ok := m.Get(c)
		if want, is := get(all, c); got != want || ok != is {
			t.Errorf("Get of %v: %v, %v", c, got, ok)
		}
		same(t, "From", slices.Collect(m.From(c)), from(all, c))
		same(t, "Row", m.Row(c.Row), row(all, c.Row))
	}
}

func TestAnswersAreNew(t *testing.T) {
	m, p := mem.New(), plain{}
	for _, c := range inOrder() {
		m.Put(c)
		p.put(c)
	}
	first, second := m.Row("a"), m.Row("a")
	want := slices.Clone(second)
	first = first[:cap(first)]
	for i := range first {
		first[i] = at(api.CPut, "a", "spoilt", "q", 1)
	}
	same(t, "another answer", second, want)
	same(t, "a third answer", m.Row("a"), want)
	holds(t, m, p)
	// What was told doesn't change with what is put later.
	m.Put(with(at(api.CPut, "a", "f", "q", 10), text("later")))
	m.Put(at(api.CPut, "a", "f", "q", 11))
	same(t, "an earlier answer", second, want)
}

// Many cells, in any order, don't take a time by each for all of them.
func TestManyCells(t *testing.T) {
	const count = 1 << 16
	for _, x := range []struct {
		what string
		at   func(i int) int
	}{
		{"rising", func(i int) int { return i }},
		{"falling", func(i int) int { return count - 1 - i }},
		{"in strides", func(i int) int { return i * 7919 % count }},
		{"from both ends", func(i int) int { return i/2 + i%2*(count-i) }},
	} {
		m := mem.New()
		for i := range count {
			m.Put(put(x.at(i)))
		}
		time := count
		for c := range m.All() {
			time--
			if c != put(time) {
				t.Fatalf("%s: %v at %d", x.what, c, time)
			}
		}
		if time != 0 || m.Count() != count {
			t.Errorf("%s: %d left, Count %d", x.what, time, m.Count())
		}
		for i := range count {
			if c, ok := m.Get(put(i)); c != put(i) || !ok {
				t.Fatalf("%s: Get of %d: %v, %v", x.what, i, c, ok)
			}
		}
		if l := m.Row("r"); len(l) != count {
			t.Errorf("%s: %d in the row", x.what, len(l))
		}
	}
}
