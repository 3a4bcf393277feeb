package filter_test

import (
	"math"
	"math/rand"
	"slices"
	"strings"
	"testing"

	"joist/api"
	"joist/filter"
)

func many(s string, n int) string { return strings.Repeat(s, n) }

func at(row, fam, qual string, time int) api.Cell {
	return api.Cell{Row: row, Fam: fam, Qual: qual, Time: time, Kind: api.CPut, Val: api.Value{Kind: api.VInt, N: time}}
}

func put(time int) api.Cell { return at("r", "f", "q", time) }

func kind(c api.Cell, k int) api.Cell {
	c.Kind, c.Val = k, api.Value{}
	return c
}

func puts(times ...int) []api.Cell {
	var l []api.Cell
	for _, n := range times {
		l = append(l, put(n))
	}
	return l
}

func versions(n int) api.Filter { return api.Filter{Versions: n} }
func rows(n int) api.Filter     { return api.Filter{Rows: n} }

// full is a right filter whose parts are all as great as they may be.
func full() api.Filter {
	return api.Filter{
		Fams:  []string{"a", "b", "c", "d", many("z", api.MaxName), "0"},
		From:  many("\x00", api.MaxQual),
		To:    many("\xff", api.MaxQual),
		Since: api.MaxClock, Until: api.MaxClock,
		Versions: api.MaxVersions, Rows: 1000,
	}
}

// but is a filter with something changed.
func but(f api.Filter, change func(f *api.Filter)) api.Filter {
	f.Fams = slices.Clone(f.Fams)
	change(&f)
	return f
}

func equal(a, b api.Filter) bool {
	return slices.Equal(a.Fams, b.Fams) && a.From == b.From && a.To == b.To && a.Since == b.Since &&
		a.Until == b.Until && a.Versions == b.Versions && a.Rows == b.Rows
}

func rightFilters() []api.Filter {
	l := []api.Filter{
		{}, {Fams: []string{}}, full(),
		{Fams: []string{"f"}}, {Fams: []string{"f", "f", "f", "f", "f", "f"}}, {Fams: []string{"az09"}},
		{From: "q"}, {To: "q"}, {From: "\x00\xff"}, {From: "z", To: "a"}, {From: "a", To: "a"},
		{Since: 1}, {Until: 1}, {Since: 9, Until: 5}, {Since: 5, Until: 5},
	}
	for n := range api.MaxVersions + 1 {
		l = append(l, versions(n))
	}
	for _, n := range []int{0, 1, 2, 999, 1000} {
		l = append(l, rows(n))
	}
	return l
}

// wrongFilters each have one thing that no right one has.
func wrongFilters() []api.Filter {
	var l []api.Filter
	for _, f := range []api.Filter{{}, {Fams: []string{"f"}}, full()} {
		for _, fam := range []string{"", "F", "f ", "_", "f-g", "`", "{", "/", ":", "\x00", "f\x00", "\xff", "é", many("f", api.MaxName+1), many("f", 1000)} {
			for i := range max(1, len(f.Fams)) {
				l = append(l, but(f, func(f *api.Filter) { f.Fams = append(slices.Clone(f.Fams[:i]), fam) }))
			}
		}
		for _, n := range []int{api.MaxFamilies + 1, 100} {
			l = append(l, but(f, func(f *api.Filter) { f.Fams = strings.Split(many("f ", n-1)+"f", " ") }))
		}
		for _, n := range []int{api.MaxQual + 1, 1000} {
			l = append(l, but(f, func(f *api.Filter) { f.From = many("q", n) }), but(f, func(f *api.Filter) { f.To = many("q", n) }))
		}
		for _, n := range []int{-1, math.MinInt, api.MaxClock + 1, math.MaxInt} {
			l = append(l, but(f, func(f *api.Filter) { f.Since = n }), but(f, func(f *api.Filter) { f.Until = n }))
		}
		for _, n := range []int{-1, math.MinInt, api.MaxVersions + 1, 256, 1 << 32, math.MaxInt} {
			l = append(l, but(f, func(f *api.Filter) { f.Versions = n }))
		}
		for _, n := range []int{-1, math.MinInt, 1001, 1 << 32, math.MaxInt} {
			l = append(l, but(f, func(f *api.Filter) { f.Rows = n }))
		}
	}
	return l
}

// cells are some of all kinds, row by row, family by family, qualifier by
// qualifier, and others that no right cell is like.
func cells() []api.Cell {
	var l []api.Cell
	for _, row := range []string{"", "a", "a\x00", "b", many("r", 40)} {
		for _, fam := range []string{"", "F", "f", "g", many("z", api.MaxName)} {
			l = append(l, kind(at(row, fam, "", 9), api.CFamily))
			for _, qual := range []string{"", "\x00", "p", "q", "q\x00", many("\xff", api.MaxQual+1)} {
				l = append(l, at(row, fam, qual, math.MaxInt), kind(at(row, fam, qual, 6), api.CColumn), at(row, fam, qual, 6),
					kind(at(row, fam, qual, 5), api.CCell), at(row, fam, qual, 5), at(row, fam, qual, 0), at(row, fam, qual, -1), at(row, fam, qual, math.MinInt))
			}
		}
	}
	return append(l, api.Cell{}, at("b", "f", "q", 5), at("a", "f", "q", 5))
}

// lets is told by the words of the chapter, one after another.
func lets(f api.Filter, c api.Cell) bool {
	named := len(f.Fams) == 0
	for _, fam := range f.Fams {
		named = named || fam == c.Fam
	}
	if !named || strings.Compare(c.Qual, f.From) < 0 || c.Time < f.Since {
		return false
	}
	if f.To != "" && strings.Compare(c.Qual, f.To) >= 0 {
		return false
	}
	return f.Until == 0 || c.Time < f.Until
}

// plain keeps all cells that were handed in, and looks through them each time.
type plain struct {
	f     api.Filter
	l     []api.Cell
	taken []bool
}

// before is how many were taken of the last cell's column, without others between.
func (p *plain) before() int {
	n := 0
	last := len(p.l) - 1
	c := p.l[last]
	for i := last - 1; i >= 0 && p.l[i].Row == c.Row && p.l[i].Fam == c.Fam && p.l[i].Qual == c.Qual; i-- {
		if p.taken[i] {
			n++
		}
	}
	return n
}

// rows tells of each row, one behind the other, whether one was taken in it.
func (p *plain) rows() []bool {
	var l []bool
	for i, c := range p.l {
		if i == 0 || c.Row != p.l[i-1].Row {
			l = append(l, false)
		}
		l[len(l)-1] = l[len(l)-1] || p.taken[i]
	}
	return l
}

// among tells whether the last cell's row is, or may come to be, among those in
// which one is taken.
func (p *plain) among() bool {
	l := p.rows()
	last := len(l) - 1
	n := 0
	for _, any := range l[:last] {
		if any {
			n++
		}
	}
	return l[last] || n < p.f.Rows
}

func (p *plain) take(c api.Cell) bool {
	p.l, p.taken = append(p.l, c), append(p.taken, false)
	ok := lets(p.f, c) && (p.f.Versions == 0 || p.before() < p.f.Versions) && (p.f.Rows == 0 || p.among())
	p.taken[len(p.taken)-1] = ok
	return ok
}

func (p *plain) done() bool { return p.f.Rows != 0 && len(p.l) > 0 && !p.among() }

// holds hands cells to a sieve and to a plain one, and answers what was taken.
func holds(t *testing.T, f api.Filter, l []api.Cell) []api.Cell {
	t.Helper()
	var out []api.Cell
	s, p := filter.New(f), plain{f: f}
	if s.Done() {
		t.Errorf("%+v: Done ahead of all", f)
	}
	for i, c := range l {
		got, want := s.Take(c), p.take(c)
		if got != want {
			t.Errorf("%+v of %v: Take of %d: %v", f, l, i, got)
			return nil
		}
		if got {
			out = append(out, c)
		}
		// A second time the same is told.
		for range 2 {
			if got, want := s.Done(), p.done(); got != want {
				t.Errorf("%+v of %v: Done behind %d: %v", f, l, i, got)
				return nil
			}
		}
	}
	return out
}

func same(t *testing.T, what string, got, want []api.Cell) {
	t.Helper()
	if !slices.Equal(got, want) {
		t.Errorf("%s: %v, not %v", what, got, want)
	}
}

// taken holds which cells of a list a sieve takes, and Apply with it.
func taken(t *testing.T, what string, f api.Filter, l []api.Cell, want ...api.Cell) {
	t.Helper()
	same(t, what+": Take", holds(t, f, l), want)
	if !filter.Right(f) {
		want = nil
	}
	same(t, what+": Apply", filter.Apply(f, l), want)
}

func TestExample(t *testing.T) {
	taken(t, "one version", versions(1), puts(5, 4, 3), put(5))
}

func TestRight(t *testing.T) {
	for _, f := range rightFilters() {
		if !filter.Right(f) {
			t.Errorf("%+v isn't right", f)
		}
	}
	for _, f := range wrongFilters() {
		if filter.Right(f) {
			t.Errorf("%+v is right", f)
		}
	}
	for n := range 256 {
		fam := string([]byte{byte(n)})
		if got, want := filter.Right(api.Filter{Fams: []string{fam}}), n >= 'a' && n <= 'z' || n >= '0' && n <= '9'; got != want {
			t.Errorf("%q: %v", fam, got)
		}
	}
}

func TestLets(t *testing.T) {
	for _, x := range []struct {
		what string
		f    api.Filter
		c    api.Cell
		want bool
	}{
		{"all", api.Filter{}, put(5), true},
		{"what isn't right", api.Filter{}, at("", "F", many("q", 40), math.MaxInt), true},
		{"noughts", api.Filter{}, api.Cell{}, true},
		{"Since 0", api.Filter{}, put(-1), false},
		{"no families", api.Filter{Fams: []string{}}, put(5), true},
		{"its family", api.Filter{Fams: []string{"f"}}, put(5), true},
		{"its family, the last of some", api.Filter{Fams: []string{"a", "b", "f"}}, put(5), true},
		{"another family", api.Filter{Fams: []string{"g"}}, put(5), false},
		{"a longer family", api.Filter{Fams: []string{"ff"}}, put(5), false},
		{"a shorter family", api.Filter{Fams: []string{"f"}}, at("r", "ff", "q", 5), false},
		{"a family that is no name", api.Filter{Fams: []string{""}}, put(5), false},
		{"the same of both", api.Filter{Fams: []string{"F\x00"}}, at("r", "F\x00", "q", 5), true},
		{"From its qualifier", api.Filter{From: "q"}, put(5), true},
		{"From one below", api.Filter{From: "p\xff"}, put(5), true},
		{"From one above", api.Filter{From: "q\x00"}, put(5), false},
		{"From, of none", api.Filter{From: "\x00"}, at("r", "f", "", 5), false},
		{"From, byte by byte", api.Filter{From: "b"}, at("r", "f", "\x80", 5), true},
		{"From, longer", api.Filter{From: "aa"}, put(5), true},
		{"To its qualifier", api.Filter{To: "q"}, put(5), false},
		{"To one above", api.Filter{To: "q\x00"}, put(5), true},
		{"To one below", api.Filter{To: "p\xff"}, put(5), false},
		{"To, of none", api.Filter{To: "\x00"}, at("r", "f", "", 5), true},
		{"From and To it", api.Filter{From: "q", To: "q"}, put(5), false},
		{"From and To about it", api.Filter{From: "q", To: "r"}, put(5), true},
		{"From above To", api.Filter{From: "r", To: "q"}, put(5), false},
		{"Since its time", api.Filter{Since: 5}, put(5), true},
		{"Since one above", api.Filter{Since: 6}, put(5), false},
		{"Since one below 0", api.Filter{Since: -1}, put(-1), true},
		{"Since the lowest", api.Filter{Since: math.MinInt}, put(math.MinInt), true},
		{"Until its time", api.Filter{Until: 5}, put(5), false},
		{"Until one above", api.Filter{Until: 6}, put(5), true},
		{"Until 0", api.Filter{Until: 0}, put(math.MaxInt), true},
		{"Until 1, of 0", api.Filter{Until: 1}, put(0), true},
		{"Until one below 0", api.Filter{Until: -1}, put(5), false},
		{"Until one below 0, of a lower one", api.Filter{Since: -9, Until: -1}, put(-2), true},
		{"Since and Until it", api.Filter{Since: 5, Until: 5}, put(5), false},
		{"Since and Until about it", api.Filter{Since: 5, Until: 6}, put(5), true},
		{"the greatest", api.Filter{Until: math.MaxInt}, put(math.MaxInt), false},
		{"Versions and Rows don't count", api.Filter{Versions: -1, Rows: -1}, put(5), true},
		{"nor does the kind", api.Filter{Fams: []string{"f"}, To: "q"}, kind(at("r", "f", "", 5), api.CFamily), true},
		{"nor a kind that is none", api.Filter{}, kind(put(5), math.MinInt), true},
	} {
		if got := filter.Lets(x.f, x.c); got != x.want || got != lets(x.f, x.c) {
			t.Errorf("%s: %v", x.what, got)
		}
	}
	for _, f := range append(rightFilters(), wrongFilters()...) {
		for _, c := range cells() {
			if got, want := filter.Lets(f, c), lets(f, c); got != want {
				t.Errorf("%+v of %v: %v", f, c, got)
			}
		}
	}
}

func TestTakeWhatIsLet(t *testing.T) {
	l := cells()
	holds(t, api.Filter{}, l)
	taken(t, "of all", api.Filter{}, puts(5, 4, 3), puts(5, 4, 3)...)
	taken(t, "of none", api.Filter{}, nil)
	taken(t, "of times", api.Filter{Since: 4, Until: 6}, puts(6, 5, 4, 3), puts(5, 4)...)
	taken(t, "of families", api.Filter{Fams: []string{"h", "f"}}, []api.Cell{at("r", "f", "q", 5), at("r", "g", "q", 5), at("r", "h", "q", 5)}, at("r", "f", "q", 5), at("r", "h", "q", 5))
	taken(t, "of qualifiers", api.Filter{From: "b", To: "d"}, []api.Cell{at("r", "f", "a", 5), at("r", "f", "b", 5), at("r", "f", "c", 5), at("r", "f", "d", 5)}, at("r", "f", "b", 5), at("r", "f", "c", 5))
	// Without what counts them the same may come again.
	taken(t, "one twice", api.Filter{}, puts(5, 5), puts(5, 5)...)
}

func TestVersions(t *testing.T) {
	l := puts(9, 8, 7, 6, 5, 4, 3, 2, 1)
	for n := 1; n <= api.MaxVersions; n++ {
		taken(t, "so many", versions(n), l, l[:n]...)
		taken(t, "not so many", versions(n), l[:n-1], l[:n-1]...)
	}
	taken(t, "0", versions(0), l, l...)
	// A sieve of a filter that isn't right goes by its words, too.
	taken(t, "nine", versions(9), l, l...)
	taken(t, "the greatest", versions(math.MaxInt), l, l...)
	taken(t, "below 0", versions(-1), l)
	taken(t, "the lowest", versions(math.MinInt), l)
	// What isn't taken doesn't count.
	taken(t, "later ones aren't let", api.Filter{Versions: 2, Until: 7}, l, puts(6, 5)...)
	taken(t, "earlier ones aren't let", api.Filter{Versions: 3, Since: 8}, l, puts(9, 8)...)
	// Kinds and values make no column.
	taken(t, "of all kinds", versions(2), []api.Cell{kind(at("r", "f", "", 9), api.CFamily), kind(at("r", "f", "", 7), api.CColumn), at("r", "f", "", 5)},
		kind(at("r", "f", "", 9), api.CFamily), kind(at("r", "f", "", 7), api.CColumn))
	taken(t, "the same again", versions(2), puts(5, 5, 5), puts(5, 5)...)
}

func TestVersionsOfColumns(t *testing.T) {
	for _, other := range []api.Cell{at("s", "f", "q", 5), at("r", "g", "q", 5), at("r", "f", "p", 5), at("", "f", "q", 5), at("r", "", "q", 5), at("r", "f", "", 5)} {
		taken(t, "another one behind", versions(1), []api.Cell{put(5), put(4), other, other}, put(5), other)
		taken(t, "one between", versions(1), []api.Cell{put(5), put(4), other, put(3), put(2)}, put(5), other, put(3))
		taken(t, "two", versions(2), []api.Cell{put(5), put(4), put(3), other, other, other, put(2)}, put(5), put(4), other, other, put(2))
	}
	for _, other := range []api.Cell{at("s", "f", "q", -1), at("r", "g", "q", -1), at("r", "f", "p", -1), at("", "f", "q", -1), at("r", "", "q", -1), at("r", "f", "", -1)} {
		taken(t, "one between that isn't let", versions(1), []api.Cell{put(5), put(4), other, put(3), put(2)}, put(5), put(3))
	}
	taken(t, "one of the same that isn't let", versions(1), puts(5, -1, 4), put(5))
	taken(t, "one that isn't let ahead", api.Filter{Versions: 1, Until: 5}, puts(5, 4, 3), put(4))
	// What has no name is a column, too, and the first one.
	taken(t, "noughts", versions(1), []api.Cell{{}, {}, {Qual: "q"}, {Qual: "q"}}, api.Cell{}, api.Cell{Qual: "q"})
}

// inRows are two cells in each of some rows.
func inRows(l ...string) []api.Cell {
	var out []api.Cell
	for _, row := range l {
		out = append(out, at(row, "f", "q", 5), at(row, "g", "q", 5))
	}
	return out
}

func TestRows(t *testing.T) {
	l := inRows("a", "b", "c", "d")
	for n := 1; n <= 4; n++ {
		taken(t, "so many", rows(n), l, l[:2*n]...)
	}
	taken(t, "more than there are", rows(5), l, l...)
	taken(t, "0", rows(0), l, l...)
	taken(t, "the greatest", rows(math.MaxInt), l, l...)
	taken(t, "too many", rows(1001), l, l...)
	taken(t, "below 0", rows(-1), l)
	taken(t, "the lowest", rows(math.MinInt), l)
	// Rows in which none is taken don't count.
	f := api.Filter{Fams: []string{"f"}, Rows: 2}
	g := []api.Cell{at("a", "g", "q", 5), at("b", "f", "q", 5), at("c", "g", "q", 5), at("d", "f", "q", 5), at("d", "f", "r", 5), at("e", "f", "q", 5)}
	taken(t, "some without", f, g, g[1], g[3], g[4])
	taken(t, "one in the row's end", f, []api.Cell{at("a", "f", "q", 5), at("b", "a", "q", 5), at("b", "f", "q", 5), at("b", "g", "q", 5), at("b", "f", "r", 5)}, at("a", "f", "q", 5), at("b", "f", "q", 5), at("b", "f", "r", 5))
	// The same row counts anew where another one stood between.
	taken(t, "again", rows(1), inRows("a", "b", "a"), inRows("a")...)
	taken(t, "again, as the second one", rows(2), inRows("a", "b", "a"), inRows("a", "b")...)
	taken(t, "again, as the third one", rows(3), inRows("a", "b", "a"), inRows("a", "b", "a")...)
	taken(t, "one behind the other", rows(1), inRows("a", "a", "a", "b"), inRows("a", "a", "a")...)
	// The row without a name is one, too.
	taken(t, "no name", rows(1), inRows("", "a"), inRows("")...)
	taken(t, "no name behind", rows(1), inRows("a", ""), inRows("a")...)
	taken(t, "both", api.Filter{Rows: 1, Versions: 1}, []api.Cell{put(5), put(4), at("r", "g", "q", 3), at("s", "f", "q", 2)}, put(5), at("r", "g", "q", 3))
	// A row of which all versions are taken already counts on.
	taken(t, "both, in two rows", api.Filter{Rows: 2, Versions: 1}, []api.Cell{put(5), put(4), at("s", "f", "q", 5), at("s", "f", "q", 4), at("t", "f", "q", 5)}, put(5), at("s", "f", "q", 5))
}

func TestManyRows(t *testing.T) {
	var l []api.Cell
	for n := range 1100 {
		l = append(l, at(string([]byte{byte(n >> 8), byte(n)}), "f", "q", 5))
	}
	same(t, "a thousand", filter.Apply(rows(1000), l), l[:1000])
	same(t, "all", filter.Apply(rows(0), l), l)
}

func TestDone(t *testing.T) {
	s := filter.New(api.Filter{Rows: 2, Fams: []string{"f"}})
	for i, x := range []struct {
		c           api.Cell
		taken, done bool
	}{
		{at("a", "f", "q", 5), true, false},
		{at("b", "g", "q", 5), false, false},
		{at("c", "a", "q", 5), false, false},
		{at("c", "f", "q", 5), true, false},
		{at("c", "g", "q", 5), false, false},
		{at("c", "f", "q", 4), true, false},
		{at("d", "g", "q", 5), false, true},
		{at("d", "f", "q", 5), false, true},
		{at("c", "f", "q", 5), false, true},
		{at("a", "f", "q", 5), false, true},
	} {
		if s.Take(x.c) != x.taken || s.Done() != x.done {
			t.Errorf("%d: %v, not %v, %v", i, x.c, x.taken, x.done)
		}
	}
	// Without Rows there is no end, and without a cell none has come.
	for _, f := range []api.Filter{{}, versions(1), {From: "z", To: "a"}, {Fams: []string{"none"}}} {
		s := filter.New(f)
		for _, c := range inRows("a", "b", "c") {
			if s.Done() {
				t.Errorf("%+v: Done", f)
			}
			s.Take(c)
		}
		if s.Done() {
			t.Errorf("%+v: Done", f)
		}
	}
	for _, n := range []int{1, 2, 1000, -1, math.MinInt} {
		if filter.New(rows(n)).Done() {
			t.Errorf("%d: Done without a cell", n)
		}
	}
	// A row in which none may be taken by other words than Rows isn't the end.
	s = filter.New(api.Filter{Rows: 1, From: "z", To: "a"})
	for _, c := range inRows("a", "b") {
		if s.Take(c) || s.Done() {
			t.Error("nothing is let")
		}
	}
	s = filter.New(api.Filter{Rows: 1, Versions: 1})
	for _, c := range puts(5, 4, 3) {
		if s.Take(c); s.Done() {
			t.Error("in the first row")
		}
	}
	// The row without a name is a row behind the first one, and the first one.
	s = filter.New(rows(1))
	s.Take(at("a", "f", "q", 5))
	if s.Take(api.Cell{}) || !s.Done() {
		t.Error("noughts behind")
	}
	s = filter.New(rows(1))
	if !s.Take(api.Cell{}) || s.Done() {
		t.Error("noughts ahead")
	}
	if s.Take(at("a", "f", "q", 5)) || !s.Done() {
		t.Error("behind noughts")
	}
}

func TestApply(t *testing.T) {
	l := cells()
	for _, f := range rightFilters() {
		same(t, "Apply", filter.Apply(f, l), holds(t, f, l))
		if out := filter.Apply(f, nil); len(out) != 0 {
			t.Errorf("%+v of nothing: %v", f, out)
		}
	}
	for _, f := range wrongFilters() {
		holds(t, f, l)
		if out := filter.Apply(f, l); out != nil {
			t.Errorf("%+v: %v", f, out)
		}
	}
}

func TestClone(t *testing.T) {
	for _, f := range append(rightFilters(), wrongFilters()...) {
		if g := filter.Clone(f); !equal(f, g) {
			t.Errorf("%+v, not %+v", g, f)
		}
	}
	fams := append(make([]string, 0, 9), "a", "b")
	f := api.Filter{Fams: fams}
	g := filter.Clone(f)
	g.Fams[0] = "x"
	_ = append(g.Fams, "y")
	if fams[0] != "a" || fams[:3][2] != "" {
		t.Error("the filter's own memory")
	}
	// Neither does what is done to the filter change its clone.
	g = filter.Clone(f)
	fams[1] = "z"
	if g.Fams[1] != "b" {
		t.Error("the clone's memory")
	}
	empty := filter.Clone(api.Filter{Fams: fams[:0]})
	_ = append(empty.Fams, "w")
	if fams[0] != "a" {
		t.Error("spare room")
	}
}

// A sieve goes by the filter that it was made of, and sieves don't share.
func TestKeepsNothing(t *testing.T) {
	fams := []string{"f", "g"}
	f := api.Filter{Fams: fams, Versions: 1, Rows: 1}
	s, other := filter.New(f), filter.New(f)
	fams[0] = "x"
	if !s.Take(put(5)) || s.Take(put(4)) || !s.Take(at("r", "g", "q", 5)) || s.Take(at("r", "x", "q", 5)) {
		t.Error("the filter is kept")
	}
	if s.Take(at("s", "f", "q", 5)) || !s.Done() || other.Done() || !other.Take(put(5)) {
		t.Error("sieves share")
	}
}

func TestArgumentsStay(t *testing.T) {
	room := append(cells(), puts(5, 4, 3)...)
	l := room[:len(room)-3]
	before := slices.Clone(room)
	for _, f := range append(rightFilters(), wrongFilters()...) {
		fams := slices.Clone(f.Fams)
		was := filter.Clone(f)
		out := filter.Apply(f, l)
		s := filter.New(f)
		s.Take(l[0])
		filter.Right(f)
		filter.Lets(f, l[0])
		if len(out) > 0 {
			for i := range out[:cap(out)] {
				out[:cap(out)][i] = at("changed", "f", "q", 1)
			}
		}
		if !slices.Equal(room, before) || !equal(f, was) || !slices.Equal(f.Fams, fams) {
			t.Fatalf("%+v: what was handed in is changed", f)
		}
	}
}

// some is a filter of few words, so that what it lets often stands side by side.
func some(r *rand.Rand) api.Filter {
	pick := func(l ...int) int { return l[r.Intn(len(l))] }
	quals := []string{"", "", "p", "q", "q\x00", "r"}
	f := api.Filter{
		From: quals[r.Intn(len(quals))], To: quals[r.Intn(len(quals))],
		Since: pick(0, 0, 1, 2, 3), Until: pick(0, 0, 4, 5, 2),
		Versions: pick(0, 1, 2, 3, 8, -1, 9), Rows: pick(0, 1, 2, 3, 4, 1000, -1, 1001),
	}
	if r.Intn(2) == 0 {
		f.From, f.To = "", ""
	}
	for range r.Intn(3) {
		f.Fams = append(f.Fams, string("fgh"[r.Intn(3)]))
	}
	return f
}

// walk are cells of few words: now and then another row, family or qualifier.
func walk(r *rand.Rand, n int) []api.Cell {
	c := put(5)
	var l []api.Cell
	for range n {
		switch r.Intn(8) {
		case 0:
			c.Row = string("ab"[r.Intn(2)])
		case 1:
			c.Row += "x"
		case 2:
			c.Fam = string("fg"[r.Intn(2)])
		case 3:
			c.Qual = []string{"", "p", "q", "q\x00"}[r.Intn(4)]
		}
		c.Time, c.Kind = r.Intn(6), 1+r.Intn(4)
		l = append(l, c)
	}
	return l
}

func TestBesideThePlainOne(t *testing.T) {
	r := rand.New(rand.NewSource(13))
	for range 20000 {
		f, l := some(r), walk(r, r.Intn(30))
		got := holds(t, f, l)
		if !filter.Right(f) {
			got = nil
		}
		same(t, "Apply", filter.Apply(f, l), got)
		if t.Failed() {
			return
		}
	}
}

func TestEnds(t *testing.T) {
	var l []api.Cell
	for n := range 1 << 18 {
		l = append(l, at(string([]byte{byte(n >> 12), byte(n >> 4)}), "f", "q", n))
	}
	if out := filter.Apply(api.Filter{Versions: 8, Rows: 1000}, l); len(out) != 8*1000 {
		t.Error(len(out))
	}
	if out := filter.Apply(api.Filter{}, l); len(out) != len(l) {
		t.Error(len(out))
	}
}

func FuzzFilter(f *testing.F) {
	f.Add("f", "a", "z", 1, 9, 1, 1, "r", "f", "q", 5, int64(1))
	f.Add("", "", "", 0, 0, 0, 0, "", "", "", 0, int64(2))
	f.Add("F", "\xff", "\x00", -1, -1, -1, -1, "\x00", "F", "\xff", math.MinInt, int64(3))
	f.Fuzz(func(t *testing.T, fam, from, to string, since, until, versions, rows int, row, cfam, qual string, time int, seed int64) {
		x := api.Filter{Fams: []string{"g", fam}, From: from, To: to, Since: since, Until: until, Versions: versions, Rows: rows}
		r := rand.New(rand.NewSource(seed))
		l := walk(r, r.Intn(30))
		for range r.Intn(10) {
			l = slices.Insert(l, r.Intn(len(l)+1), at(row, cfam, qual, time))
		}
		got := holds(t, x, l)
		if !filter.Right(x) {
			got = nil
		}
		same(t, "Apply", filter.Apply(x, l), got)
		for _, c := range l {
			if filter.Lets(x, c) != lets(x, c) {
				t.Errorf("%+v of %v", x, c)
			}
		}
		if !equal(filter.Clone(x), x) {
			t.Errorf("%+v: Clone", x)
		}
	})
}
