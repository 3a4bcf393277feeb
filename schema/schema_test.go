package schema_test

import (
	"bytes"
	"math"
	"math/rand"
	"slices"
	"strings"
	"testing"

	"joist/api"
	"joist/schema"
)

const (
	mostSteps = 9
	mostText  = 100 // bytes of a change's text that has bytes
)

// states are all numbers of states, and some that are none.
var states = []int{api.Absent, api.DeleteOnly, api.WriteOnly, api.Public, api.Public + 1, -1, math.MinInt, math.MaxInt}

func many(s string, n int) string { return strings.Repeat(s, n) }

// layouts are of pairs of a group and a state.
func layouts(l ...int) []api.Layout {
	var out []api.Layout
	for i := 0; i < len(l); i += 2 {
		out = append(out, api.Layout{Group: l[i], State: l[i+1]})
	}
	return out
}

func in(l ...int) api.Family { return api.Family{Layouts: layouts(l...)} }

func family(name string) api.Family {
	return api.Family{Name: name, Versions: 1, Layouts: layouts(0, api.Public)}
}

// base is a schema with something of each kind.
func base() api.Schema {
	return api.Schema{
		Version: 300,
		Fams: []api.Family{
			{
				Name: "f", Versions: 3, Life: 60, Layouts: layouts(0, api.Public, 1, api.WriteOnly),
				Cols: []api.Column{{Qual: "q", Kind: api.VInt, State: api.Public}, {Qual: "", Kind: api.VText, State: api.DeleteOnly}, {Qual: "\x00\xff", Kind: api.VFloat, State: api.WriteOnly}},
			},
			{Name: "g9", Versions: 8, Layouts: layouts(2, api.DeleteOnly)},
			{Name: "a", Versions: 1, Life: 1, Layouts: layouts(2, api.WriteOnly, 0, api.DeleteOnly), Cols: []api.Column{{Qual: "q", Kind: api.VBool, State: api.Public}}},
		},
		Change: api.Change{Kind: api.DMove, Fam: "f", Group: 1},
		Step:   2,
	}
}

// full is a right schema whose parts are all as great as they may be.
func full() api.Schema {
	s := api.Schema{
		Version: api.MaxClock,
		Change: api.Change{
			Kind: api.DMove, Fam: many("\xff", mostText), Qual: many("\x00", mostText), Type: math.MaxInt,
			Group: math.MaxInt, Versions: math.MaxInt, Life: math.MaxInt,
		},
		Step: mostSteps,
	}
	for i := range api.MaxFamilies {
		f := api.Family{Name: many(string(rune('a'+i)), api.MaxName), Versions: api.MaxVersions, Life: api.MaxClock, Layouts: layouts(2, api.Public, 1, api.WriteOnly)}
		for k := range api.MaxColumns {
			f.Cols = append(f.Cols, api.Column{Qual: many(string([]byte{byte(255 - k)}), api.MaxQual), Kind: api.VFloat, State: api.Public})
		}
		s.Fams = append(s.Fams, f)
	}
	return s
}

// copied is a schema's like, without a call of the package.
func copied(s api.Schema) api.Schema {
	s.Fams = append([]api.Family(nil), s.Fams...)
	for i := range s.Fams {
		f := &s.Fams[i]
		f.Layouts = append([]api.Layout(nil), f.Layouts...)
		f.Cols = append([]api.Column(nil), f.Cols...)
	}
	return s
}

// but is a schema with something changed.
func but(s api.Schema, change func(s *api.Schema)) api.Schema {
	s = copied(s)
	change(&s)
	return s
}

func equalFamilies(a, b api.Family) bool {
	return a.Name == b.Name && a.Versions == b.Versions && a.Life == b.Life &&
		slices.Equal(a.Layouts, b.Layouts) && slices.Equal(a.Cols, b.Cols)
}

// equal holds schemas against each other without a call of the package.
func equal(a, b api.Schema) bool {
	if a.Version != b.Version || a.Change != b.Change || a.Step != b.Step || len(a.Fams) != len(b.Fams) {
		return false
	}
	for i := range a.Fams {
		if !equalFamilies(a.Fams[i], b.Fams[i]) {
			return false
		}
	}
	return true
}

func rightSchemas() []api.Schema {
	l := []api.Schema{
		{Version: 1}, {Version: 1, Fams: []api.Family{}}, {Version: 2, Fams: []api.Family{family("f")}}, base(), full(),
		{Version: 1, Change: api.Change{Kind: api.DAddFamily}, Step: 1},
		{Version: 1, Fams: []api.Family{{Name: "f", Versions: 1, Layouts: layouts(0, 1), Cols: []api.Column{}}}},
	}
	for _, n := range []int{1, 2, 127, 128, 16383, 16384, api.MaxClock - 1, api.MaxClock} {
		l = append(l, but(base(), func(s *api.Schema) { s.Version = n }), but(base(), func(s *api.Schema) { s.Fams[1].Life = n }))
	}
	l = append(l, but(base(), func(s *api.Schema) { s.Fams[0].Life = 0 }))
	for n := 1; n <= api.MaxVersions; n++ {
		l = append(l, but(base(), func(s *api.Schema) { s.Fams[1].Versions = n }))
	}
	for n := range api.MaxFamilies + 1 {
		l = append(l, but(full(), func(s *api.Schema) { s.Fams = s.Fams[:n] }))
	}
	for n := range api.MaxColumns + 1 {
		l = append(l, but(full(), func(s *api.Schema) { s.Fams[5].Cols = s.Fams[5].Cols[:n] }))
	}
	for n := range api.MaxQual + 1 {
		l = append(l, but(base(), func(s *api.Schema) { s.Fams[2].Cols[0].Qual = many("\x80", n) }))
	}
	for kind := api.DAddFamily; kind <= api.DMove; kind++ {
		for step := 1; step <= mostSteps; step++ {
			l = append(l, but(base(), func(s *api.Schema) { s.Change, s.Step = api.Change{Kind: kind}, step }))
		}
	}
	for _, name := range []string{"0", "9", "z", "az09", many("a", api.MaxName)} {
		l = append(l, but(base(), func(s *api.Schema) { s.Fams[0].Name = name }))
	}
	for kind := api.VInt; kind <= api.VFloat; kind++ {
		l = append(l, but(base(), func(s *api.Schema) { s.Fams[0].Cols[1].Kind = kind }))
	}
	return append(append(l, rightLayouts()...), looseChanges()...)
}

// rightLayouts are schemas with all that the layouts of one family may be.
func rightLayouts() []api.Schema {
	var l []api.Schema
	add := func(o []api.Layout) {
		l = append(l, but(base(), func(s *api.Schema) { s.Fams[2].Layouts = o }))
	}
	for group := range api.MaxGroups {
		for state := api.DeleteOnly; state <= api.Public; state++ {
			add(layouts(group, state))
			for other := range 9 {
				if other/3 != group && !(state == api.Public && other%3+1 == api.Public) {
					add(layouts(group, state, other/3, other%3+1))
				}
			}
		}
	}
	return l
}

// looseChanges are right schemas with changes that aren't well formed: of one that
// is under way no more than its Kind is asked.
func looseChanges() []api.Schema {
	var l []api.Schema
	for _, c := range []api.Change{
		{Kind: api.DAddFamily, Fam: "F", Qual: "\x00"}, {Kind: api.DMove, Qual: many("q", mostText)}, {Kind: api.DDropColumn, Fam: many("f", mostText)},
		{Kind: api.DAddColumn, Type: math.MaxInt}, {Kind: api.DDropFamily, Group: 3}, {Kind: api.DMove, Versions: 9, Life: api.MaxClock + 1},
	} {
		for _, s := range []api.Schema{{Version: 1}, base()} {
			l = append(l, but(s, func(s *api.Schema) { s.Change, s.Step = c, mostSteps }))
		}
	}
	return l
}

// untold are right schemas that have no bytes.
func untold() []api.Schema {
	var l []api.Schema
	for _, s := range []api.Schema{{Version: 1, Change: api.Change{Kind: api.DAddFamily}, Step: 1}, base(), full()} {
		for _, n := range []int{-1, -128, math.MinInt} {
			l = append(l,
				but(s, func(s *api.Schema) { s.Change.Type = n }), but(s, func(s *api.Schema) { s.Change.Group = n }),
				but(s, func(s *api.Schema) { s.Change.Versions = n }), but(s, func(s *api.Schema) { s.Change.Life = n }))
		}
		for _, n := range []int{mostText + 1, 128, 1000} {
			l = append(l, but(s, func(s *api.Schema) { s.Change.Fam = many("f", n) }), but(s, func(s *api.Schema) { s.Change.Qual = many("q", n) }))
		}
	}
	return l
}

// wrongFamilies each change one family, so that no right schema has such a one.
func wrongFamilies() []func(f *api.Family) {
	l := []func(f *api.Family){
		func(f *api.Family) { f.Layouts = nil },
		func(f *api.Family) { f.Layouts = []api.Layout{} },
		func(f *api.Family) { f.Layouts = layouts(0, 1, 1, 1, 2, 1) },
		func(f *api.Family) { f.Layouts = make([]api.Layout, 1000) },
		func(f *api.Family) { f.Layouts = layouts(0, api.Public, 1, api.Public) },
		func(f *api.Family) { f.Layouts = layouts(2, api.Public, 0, api.Public) },
		func(f *api.Family) { *f = api.Family{} },
	}
	for _, name := range []string{"", "F", "f ", "_", "f-g", "`", "{", "/", ":", "\x00", "f\x00", "\xff", "é", many("f", api.MaxName+1), many("f", 1000)} {
		l = append(l, func(f *api.Family) { f.Name = name })
	}
	for _, n := range []int{0, -1, math.MinInt, api.MaxVersions + 1, 257, 1<<32 + 1, math.MaxInt} {
		l = append(l, func(f *api.Family) { f.Versions = n })
	}
	for _, n := range []int{-1, math.MinInt, api.MaxClock + 1, math.MaxInt} {
		l = append(l, func(f *api.Family) { f.Life = n })
	}
	for group := range api.MaxGroups {
		l = append(l, func(f *api.Family) { f.Layouts = layouts(group, api.DeleteOnly, group, api.WriteOnly) })
	}
	for _, n := range []int{-1, math.MinInt, api.MaxGroups, 256, 1 << 32, math.MaxInt} {
		l = append(l, func(f *api.Family) { f.Layouts = layouts(n, api.Public) },
			func(f *api.Family) { f.Layouts = layouts(n, api.WriteOnly, 1, api.DeleteOnly) },
			func(f *api.Family) { f.Layouts = layouts(1, api.DeleteOnly, n, api.WriteOnly) })
	}
	for _, n := range []int{api.Absent, -1, math.MinInt, api.Public + 1, 257, 1<<32 + 1, math.MaxInt} {
		l = append(l, func(f *api.Family) { f.Layouts = layouts(0, n) },
			func(f *api.Family) { f.Layouts = layouts(0, n, 1, api.Public) },
			func(f *api.Family) { f.Layouts = layouts(1, api.Public, 0, n) })
	}
	return append(l, wrongColumns()...)
}

func wrongColumns() []func(f *api.Family) {
	good := api.Column{Qual: "good", Kind: api.VInt, State: api.Public}
	var bad []api.Column
	for _, n := range []int{api.MaxQual + 1, 1000} {
		bad = append(bad, api.Column{Qual: many("q", n), Kind: api.VInt, State: api.Public})
	}
	for _, n := range []int{0, -1, math.MinInt, api.VFloat + 1, 257, 1<<32 + 1, math.MaxInt} {
		bad = append(bad, api.Column{Qual: "q", Kind: n, State: api.Public})
	}
	for _, n := range []int{api.Absent, -1, math.MinInt, api.Public + 1, 257, 1<<32 + 1, math.MaxInt} {
		bad = append(bad, api.Column{Qual: "q", Kind: api.VInt, State: n})
	}
	bad = append(bad, api.Column{})
	var l []func(f *api.Family)
	for _, c := range bad {
		l = append(l, func(f *api.Family) { f.Cols = []api.Column{c} },
			func(f *api.Family) { f.Cols = []api.Column{good, c} }, func(f *api.Family) { f.Cols = []api.Column{c, good} })
	}
	for _, n := range []int{api.MaxColumns + 1, 100} {
		l = append(l, func(f *api.Family) {
			f.Cols = nil
			for i := range n {
				f.Cols = append(f.Cols, api.Column{Qual: many("q", i%10) + string(rune('a'+i/10)), Kind: api.VInt, State: api.Public})
			}
		})
	}
	// Two of one Qual, wherever they stand, whatever else they are.
	for i := range api.MaxColumns {
		for k := range i {
			l = append(l, func(f *api.Family) {
				f.Cols = copied(full()).Fams[0].Cols
				f.Cols[i].Qual = f.Cols[k].Qual
				f.Cols[i].Kind, f.Cols[i].State = api.VInt, api.DeleteOnly
			})
		}
	}
	return append(l, func(f *api.Family) {
		f.Cols = []api.Column{{Kind: api.VInt, State: api.Public}, {Kind: api.VText, State: api.Public}}
	})
}

// wrongSchemas each have one thing that no right one has.
func wrongSchemas() []api.Schema {
	l := []api.Schema{{}}
	for _, s := range []api.Schema{{Version: 1}, base(), full()} {
		for _, n := range []int{0, -1, math.MinInt, api.MaxClock + 1, math.MaxInt} {
			l = append(l, but(s, func(s *api.Schema) { s.Version = n }))
		}
		l = append(l, wrongChanges(s)...)
		for _, wrong := range wrongFamilies() {
			for i := range s.Fams {
				l = append(l, but(s, func(s *api.Schema) { wrong(&s.Fams[i]) }))
			}
		}
	}
	for i := range api.MaxFamilies {
		for k := range i {
			l = append(l, but(full(), func(s *api.Schema) { s.Fams[i].Name = s.Fams[k].Name }))
		}
	}
	l = append(l, but(base(), func(s *api.Schema) { s.Fams = append(s.Fams, family("f")) }), but(full(), func(s *api.Schema) { s.Fams = append(s.Fams, family("more")) }))
	return append(l, api.Schema{Version: 1, Fams: make([]api.Family, 1000)})
}

func wrongChanges(s api.Schema) []api.Schema {
	var l []api.Schema
	add := func(c api.Change, step int) {
		l = append(l, but(s, func(s *api.Schema) { s.Change, s.Step = c, step }))
	}
	for _, n := range []int{-1, math.MinInt, api.DMove + 1, 257, 1<<32 + 1, math.MaxInt} {
		add(api.Change{Kind: n}, 1)
		add(api.Change{Kind: n}, 0)
	}
	for kind := api.DAddFamily; kind <= api.DMove; kind++ {
		for _, n := range []int{0, -1, math.MinInt, mostSteps + 1, 257, 1<<32 + 1, math.MaxInt} {
			add(api.Change{Kind: kind, Fam: "f"}, n)
		}
	}
	for _, n := range []int{1, -1, mostSteps, math.MinInt, math.MaxInt} {
		add(api.Change{}, n)
	}
	for _, c := range []api.Change{{Fam: "f"}, {Qual: "q"}, {Type: 1}, {Group: 1}, {Versions: 1}, {Life: 1}, {Fam: "\x00"}, {Type: -1}} {
		add(c, 0)
		add(c, 1)
	}
	return l
}

func TestRight(t *testing.T) {
	for _, s := range slices.Concat(rightSchemas(), untold()) {
		if !schema.Right(s) {
			t.Errorf("%+v isn't right", s)
		}
	}
	for _, s := range wrongSchemas() {
		if schema.Right(s) {
			t.Errorf("%+v is right", s)
		}
	}
	for n := range 256 {
		s := api.Schema{Version: 1, Fams: []api.Family{family(string([]byte{byte(n)}))}}
		if got, want := schema.Right(s), n >= 'a' && n <= 'z' || n >= '0' && n <= '9'; got != want {
			t.Errorf("%q: %t", s.Fams[0].Name, got)
		}
	}
	// What is alike in two families is not in one.
	twice := api.Schema{Version: 1, Fams: []api.Family{base().Fams[0], base().Fams[0]}}
	twice.Fams[1].Name = "other"
	if !schema.Right(twice) {
		t.Error("columns of two families are held against each other")
	}
}

func TestExample(t *testing.T) {
	f := in(0, api.Public, 1, api.WriteOnly)
	reads(t, f, 0, true)
	writes(t, f, []int{0, 1}, []int{0, 1})
}

func finds(t *testing.T, s api.Schema, name string, want api.Family, ok bool) {
	t.Helper()
	if f, is := schema.Find(s, name); is != ok || !equalFamilies(f, want) {
		t.Errorf("%q: %+v, %t, not %+v, %t", name, f, is, want, ok)
	}
}

func TestFind(t *testing.T) {
	for _, s := range rightSchemas() {
		for _, f := range s.Fams {
			finds(t, s, f.Name, f, true)
			finds(t, s, f.Name+"\x00", api.Family{}, false)
			finds(t, s, f.Name[:len(f.Name)-1], api.Family{}, false)
		}
		for _, name := range []string{"", "none", "F", "\x00", many("f", 1000)} {
			finds(t, s, name, api.Family{}, false)
		}
	}
	// Of any schema the first one is found, whatever it is.
	odd := api.Schema{Fams: []api.Family{
		{Name: "f", Versions: 1}, {Name: "", Versions: 2}, {Name: "f", Versions: 3}, {Name: "", Versions: 4}, {Name: "F\x00", Versions: -5, Layouts: layouts(9, 9, 9, 9, 9, 9)},
	}}
	finds(t, odd, "f", odd.Fams[0], true)
	finds(t, odd, "", odd.Fams[1], true)
	finds(t, odd, "F\x00", odd.Fams[4], true)
	finds(t, odd, "F", api.Family{}, false)
	finds(t, api.Schema{}, "", api.Family{}, false)
	finds(t, api.Schema{Fams: make([]api.Family, 3)}, "", api.Family{}, true)
}

func TestColumn(t *testing.T) {
	has := func(f api.Family, qual string, want api.Column, ok bool) {
		t.Helper()
		if c, is := schema.Column(f, qual); is != ok || c != want {
			t.Errorf("%q of %+v: %+v, %t, not %+v, %t", qual, f, c, is, want, ok)
		}
	}
	for _, s := range rightSchemas() {
		for _, f := range s.Fams {
			for _, c := range f.Cols {
				has(f, c.Qual, c, true)
				has(f, c.Qual+"\x01", api.Column{}, false)
			}
			has(f, "none", api.Column{}, false)
		}
	}
	odd := api.Family{Cols: []api.Column{{Qual: "q", Kind: 9}, {Qual: "", State: -1}, {Qual: "q", Kind: 1, State: 3}, {}, {Qual: many("q", 1000)}}}
	has(odd, "q", odd.Cols[0], true)
	has(odd, "", odd.Cols[1], true)
	has(odd, many("q", 1000), odd.Cols[4], true)
	has(odd, many("q", 999), api.Column{}, false)
	has(api.Family{}, "", api.Column{}, false)
	has(family("f"), "", api.Column{}, false)
	has(api.Family{Cols: make([]api.Column, 2)}, "", api.Column{}, true)
}

func reads(t *testing.T, f api.Family, group int, ok bool) {
	t.Helper()
	if n, is := schema.Read(f); n != group || is != ok {
		t.Errorf("%v is read: %d, %t, not %d, %t", f.Layouts, n, is, group, ok)
	}
}

func writes(t *testing.T, f api.Family, written, gone []int) {
	t.Helper()
	if l := schema.Written(f); !slices.Equal(l, written) {
		t.Errorf("%v is written: %d, not %d", f.Layouts, l, written)
	}
	if l := schema.Gone(f); !slices.Equal(l, gone) {
		t.Errorf("%v is gone: %d, not %d", f.Layouts, l, gone)
	}
}

func TestRead(t *testing.T) {
	reads(t, api.Family{}, 0, false)
	reads(t, in(0, api.Public), 0, true)
	reads(t, in(2, api.Public), 2, true)
	reads(t, in(2, api.WriteOnly, 1, api.Public), 1, true)
	reads(t, in(2, api.WriteOnly, 1, api.DeleteOnly), 0, false)
	// Of any family the first one counts.
	reads(t, in(2, api.Public, 1, api.Public), 2, true)
	reads(t, in(7, api.Absent, -5, api.Public, 1, api.Public), -5, true)
	reads(t, in(math.MinInt, api.Public), math.MinInt, true)
	for _, state := range states {
		if state == api.Public {
			reads(t, in(2, state), 2, true)
		} else {
			reads(t, in(2, state), 0, false)
			reads(t, in(2, state, 1, api.Public), 1, true)
		}
	}
	// Neither the columns nor the name count.
	reads(t, api.Family{Name: "f", Cols: []api.Column{{State: api.Public}}}, 0, false)
}

func TestWrittenAndGone(t *testing.T) {
	writes(t, api.Family{}, nil, nil)
	writes(t, in(0, api.DeleteOnly), nil, []int{0})
	writes(t, in(1, api.WriteOnly), []int{1}, []int{1})
	writes(t, in(2, api.Public), []int{2}, []int{2})
	writes(t, in(2, api.DeleteOnly, 1, api.Public), []int{1}, []int{2, 1})
	writes(t, in(2, api.WriteOnly, 0, api.Public), []int{2, 0}, []int{2, 0})
	writes(t, in(0, api.Public, 2, api.DeleteOnly), []int{0}, []int{0, 2})
	// Any family's are told as they stand, each one, the same group twice too.
	writes(t, in(5, 2, -5, 3, 5, 3, math.MaxInt, 1, 0, 0), []int{5, -5, 5}, []int{5, -5, 5, math.MaxInt})
	for _, state := range states {
		var written, gone []int
		if state == api.WriteOnly || state == api.Public {
			written = []int{7}
		}
		if state != api.Absent {
			gone = []int{7}
		}
		writes(t, in(7, state), written, gone)
		writes(t, in(9, api.Public, 7, state), slices.Concat([]int{9}, written), slices.Concat([]int{9}, gone))
	}
	writes(t, api.Family{Name: "f", Cols: []api.Column{{State: api.Public}}}, nil, nil)
}

// number is a number's bytes, told plainly.
func number(n int) string {
	var b []byte
	for n > 127 {
		b = append(b, byte(128+n%128))
		n /= 128
	}
	return string(append(b, byte(n)))
}

func list(l ...string) string {
	b := number(len(l))
	for _, p := range l {
		b += number(len(p)) + p
	}
	return b
}

func toldFamily(f api.Family) string {
	l := []string{f.Name, number(f.Versions), number(f.Life), number(len(f.Layouts))}
	for _, o := range f.Layouts {
		l = append(l, number(o.Group), number(o.State))
	}
	for _, c := range f.Cols {
		l = append(l, c.Qual, number(c.Kind), number(c.State))
	}
	return list(l...)
}

// toldParts are the parts of a schema's list, told plainly, also those that one
// would have that isn't right (but for numbers below 0).
func toldParts(s api.Schema) []string {
	l := []string{number(s.Version)}
	for _, f := range s.Fams {
		l = append(l, toldFamily(f))
	}
	c := s.Change
	return append(l, number(c.Kind), c.Fam, c.Qual, number(c.Type), number(c.Group), number(c.Versions), number(c.Life), number(s.Step))
}

func told(s api.Schema) string { return list(toldParts(s)...) }

// below tells whether a schema has numbers below 0.
func below(s api.Schema) bool {
	l := []int{s.Version, s.Step, s.Change.Kind, s.Change.Type, s.Change.Group, s.Change.Versions, s.Change.Life}
	for _, f := range s.Fams {
		l = append(l, f.Versions, f.Life)
		for _, o := range f.Layouts {
			l = append(l, o.Group, o.State)
		}
		for _, c := range f.Cols {
			l = append(l, c.Kind, c.State)
		}
	}
	return slices.Min(l) < 0
}

func TestEncode(t *testing.T) {
	small := api.Schema{
		Version: 300,
		Fams:    []api.Family{{Name: "f", Versions: 3, Life: 200, Layouts: layouts(0, 3, 1, 2), Cols: []api.Column{{Qual: "q\x00", Kind: 2, State: 1}}}},
		Change:  api.Change{Kind: 5, Fam: "f", Qual: "x", Type: 4, Group: 1, Versions: 6, Life: 7}, Step: 2,
	}
	for _, x := range []struct {
		s    api.Schema
		want string
	}{
		{api.Schema{Version: 1}, "\x09\x01\x01\x01\x00\x00\x00\x01\x00\x01\x00\x01\x00\x01\x00\x01\x00"},
		{small, "\x0a\x02\xac\x02" +
			"\x19\x0b\x01f\x01\x03\x02\xc8\x01\x01\x02\x01\x00\x01\x03\x01\x01\x01\x02\x02q\x00\x01\x02\x01\x01" +
			"\x01\x05\x01f\x01x\x01\x04\x01\x01\x01\x06\x01\x07\x01\x02"},
	} {
		if b, ok := schema.Encode(x.s); string(b) != x.want || !ok {
			t.Errorf("%+v: %q, %t", x.s, b, ok)
		}
	}
	for _, s := range rightSchemas() {
		b, ok := schema.Encode(s)
		if string(b) != told(s) || !ok {
			t.Errorf("%+v: %q, %t", s, b, ok)
		} else if int(b[0]) != 9+len(s.Fams) {
			t.Errorf("%d families: %d parts", len(s.Fams), b[0])
		}
	}
	for _, s := range slices.Concat(wrongSchemas(), untold()) {
		if b, ok := schema.Encode(s); len(b) != 0 || ok {
			t.Errorf("%+v: %q, %t", s, b, ok)
		}
	}
}

func decodes(t *testing.T, b string, want api.Schema, ok bool) {
	t.Helper()
	if s, is := schema.Decode([]byte(b)); is != ok || !equal(s, want) {
		t.Errorf("%q: %+v, %t, not %+v, %t", b[:min(len(b), 500)], s, is, want, ok)
	}
}

func none(t *testing.T, b string) {
	t.Helper()
	decodes(t, b, api.Schema{}, false)
}

func TestDecode(t *testing.T) {
	for _, s := range rightSchemas() {
		b := told(s)
		decodes(t, b, s, true)
		for i := range len(b) {
			none(t, b[:i])
		}
		for _, more := range []string{"\x00", "\x01", "\x80", "\xff", many("\x01", 60), b} {
			none(t, b+more)
			none(t, more+b)
		}
	}
	for _, s := range slices.Concat(wrongSchemas(), untold()) {
		if !below(s) {
			none(t, told(s))
		}
	}
}

// turned holds that bytes that are others than a schema's are another one's, or none's.
func turned(t *testing.T, b []byte) {
	t.Helper()
	s, ok := schema.Decode(b)
	if !ok && !equal(s, api.Schema{}) || ok && (!right(s) || told(s) != string(b)) {
		t.Fatalf("%q: %+v, %t", b, s, ok)
	}
}

func TestDecodeTurned(t *testing.T) {
	for _, s := range []api.Schema{{Version: 1}, base()} {
		b := []byte(told(s))
		for i := range b {
			for range 255 {
				b[i]++
				turned(t, b)
			}
			b[i]++
		}
	}
	b := []byte(told(full()))
	for i := range b {
		for bit := range 8 {
			b[i] ^= 1 << bit
			turned(t, b)
			b[i] ^= 1 << bit
		}
	}
}

// others are what a number may not be in its place.
func others() []string {
	return []string{"", "\x80", "\x80\x00", "\x81\x00", "\x01\x00", "\x01\x01", "\x01\x80", many("\xff", 9), many("\x80", 9) + "\x01", many("\xff", 100), many("\x01", 100)}
}

func TestDecodeOfOtherParts(t *testing.T) {
	for _, s := range []api.Schema{{Version: 1}, base(), full()} {
		l := toldParts(s)
		ahead, change := 1, len(l)-8
		for i := range l {
			with := func(more ...string) string { return list(slices.Concat(l[:i], more, l[i+1:])...) }
			none(t, with(l[i], l[i]))
			none(t, with("", l[i]))
			none(t, with(l[i], "\x01"))
			if i >= ahead && i < change {
				otherFamilies(t, s.Fams[i-ahead], func(f string) string { return with(f) })
				continue
			}
			none(t, with())
			if i == change+1 || i == change+2 {
				continue
			}
			for _, n := range others() {
				none(t, with(n))
			}
		}
	}
}

// otherFamilies holds that no schema has a family of other parts.
func otherFamilies(t *testing.T, f api.Family, with func(f string) string) {
	t.Helper()
	b := toldFamily(f)
	for _, other := range []string{"", "\x00", "\x01", b[:len(b)-1], b + "\x00", list(b), list(""), list("", "", "", ""), list(f.Name), "\x80" + b} {
		none(t, with(other))
	}
	l := []string{f.Name, number(f.Versions), number(f.Life), number(len(f.Layouts))}
	numbers := []int{1, 2, 3}
	for _, o := range f.Layouts {
		numbers = append(numbers, len(l), len(l)+1)
		l = append(l, number(o.Group), number(o.State))
	}
	for _, c := range f.Cols {
		numbers = append(numbers, len(l)+1, len(l)+2)
		l = append(l, c.Qual, number(c.Kind), number(c.State))
	}
	for _, i := range numbers {
		for _, n := range others() {
			none(t, with(list(slices.Concat(l[:i], []string{n}, l[i+1:])...)))
		}
	}
	for i := range l {
		none(t, with(list(l[:i]...)+"\x00"))
		none(t, with(list(slices.Concat(l[:i], l[i+1:])...)))
	}
	// How many layouts there are is told as it is, whatever stands behind.
	for _, n := range []int{0, 1, 2, 3, 4, 127, 128, 1 << 62, math.MaxInt} {
		if n != len(f.Layouts) {
			none(t, with(list(slices.Concat(l[:3], []string{number(n)}, l[4:])...)))
		}
	}
	for _, more := range [][]string{{""}, {"x"}, {"x", "\x01"}, {"x", "\x01", "\x03", ""}, {"x", "\x01", "\x00"}, {"x", "\x06", "\x03"}} {
		none(t, with(list(slices.Concat(l, more)...)))
	}
}

// Lists that are told to be great, or are, come to their end.
func TestDecodeOfGreat(t *testing.T) {
	for _, b := range []string{
		"", "\x00", "\x08", "\x09", many("\xff", 8) + "\x7f", many("\xff", 9), many("\x00", 1<<20), many("\x01", 1<<20), many("\xff", 1<<20),
		number(math.MaxInt) + many("\x00", 1<<16), number(1<<20) + many("\x00", 1<<20),
		list("\x01", many("\x00", 1<<20), "", "", "", "", "", "", ""),
		list(many("\x01", 1<<20), "\x00", "", "", "\x00", "\x00", "\x00", "\x00", "\x00"),
		list("\x01", number(1<<20)+many("\x00", 1<<20), "\x00", "", "", "\x00", "\x00", "\x00", "\x00", "\x00"),
		list("\x01", list("f", "\x01", "\x00", number(math.MaxInt)), "\x00", "", "", "\x00", "\x00", "\x00", "\x00", "\x00"),
		list("\x01", list(many("f", 1<<20), "\x01", "\x00", "\x01", "\x00", "\x03"), "\x00", "", "", "\x00", "\x00", "\x00", "\x00", "\x00"),
		list("\x01", "\x01", many("f", 1<<20), "", "\x00", "\x00", "\x00", "\x00", "\x01"),
		list("\x01", "\x01", "", many("f", 1<<20), "\x00", "\x00", "\x00", "\x00", "\x01"),
	} {
		none(t, b)
	}
}

// variants are schemas that are each another one than base.
func variants() []api.Schema {
	changes := []func(s *api.Schema){
		func(s *api.Schema) { s.Version++ }, func(s *api.Schema) { s.Step++ },
		func(s *api.Schema) { s.Change.Kind-- }, func(s *api.Schema) { s.Change.Fam += "\x00" }, func(s *api.Schema) { s.Change.Qual = "q" },
		func(s *api.Schema) { s.Change.Type = -1 }, func(s *api.Schema) { s.Change.Group++ }, func(s *api.Schema) { s.Change.Versions = 1 },
		func(s *api.Schema) { s.Change.Life = 1 }, func(s *api.Schema) { s.Change, s.Step = api.Change{}, 0 },
		func(s *api.Schema) { s.Fams = nil }, func(s *api.Schema) { s.Fams = s.Fams[:2] }, func(s *api.Schema) { s.Fams = s.Fams[1:] },
		func(s *api.Schema) { s.Fams = append(s.Fams, api.Family{}) }, func(s *api.Schema) { s.Fams = append(s.Fams, s.Fams[0]) },
		func(s *api.Schema) { s.Fams[0], s.Fams[1] = s.Fams[1], s.Fams[0] }, func(s *api.Schema) { s.Fams[2] = s.Fams[0] },
		func(s *api.Schema) { s.Fams[1].Name = "g" }, func(s *api.Schema) { s.Fams[2].Versions = 2 }, func(s *api.Schema) { s.Fams[0].Life = -60 },
	}
	for i := range 3 {
		changes = append(changes,
			func(s *api.Schema) { s.Fams[i].Layouts = nil },
			func(s *api.Schema) { s.Fams[i].Layouts = append(s.Fams[i].Layouts, api.Layout{}) },
			func(s *api.Schema) { s.Fams[i].Layouts[len(s.Fams[i].Layouts)-1].Group = 7 },
			func(s *api.Schema) { s.Fams[i].Layouts[0].State = 7 },
			func(s *api.Schema) { s.Fams[i].Cols = append(s.Fams[i].Cols, api.Column{}) })
	}
	changes = append(changes,
		func(s *api.Schema) { s.Fams[0].Layouts = layouts(1, api.WriteOnly, 0, api.Public) },
		func(s *api.Schema) { s.Fams[0].Cols = nil }, func(s *api.Schema) { s.Fams[0].Cols = s.Fams[0].Cols[:2] },
		func(s *api.Schema) { s.Fams[0].Cols = s.Fams[0].Cols[1:] }, func(s *api.Schema) { s.Fams[0].Cols[1].Qual = "\x00" },
		func(s *api.Schema) { s.Fams[0].Cols[2].Kind = api.VInt }, func(s *api.Schema) { s.Fams[2].Cols[0].State = -1 },
		func(s *api.Schema) { c := s.Fams[0].Cols; c[0], c[1] = c[1], c[0] })
	var l []api.Schema
	for _, change := range changes {
		l = append(l, but(base(), change))
	}
	return l
}

func TestSame(t *testing.T) {
	for _, s := range variants() {
		if schema.Same(base(), s) || schema.Same(s, base()) || !schema.Same(s, copied(s)) {
			t.Errorf("%+v", s)
		}
	}
	l := slices.Concat(variants(), rightSchemas(), untold(), []api.Schema{{}, {Fams: make([]api.Family, 3)}, {Fams: make([]api.Family, 2)}, {Version: -1}})
	for _, a := range l {
		for _, b := range l {
			if schema.Same(a, b) != equal(a, b) {
				t.Fatalf("%+v and %+v: %t", a, b, !equal(a, b))
			}
		}
	}
	for _, s := range wrongSchemas() {
		if !schema.Same(s, copied(s)) || schema.Same(s, base()) || schema.Same(base(), s) {
			t.Errorf("%+v", s)
		}
	}
	// A nil list and an empty one are the same.
	if !schema.Same(api.Schema{Version: 1}, api.Schema{Version: 1, Fams: []api.Family{}}) || !schema.Same(api.Schema{Fams: []api.Family{}}, api.Schema{}) {
		t.Error("no families aren't no families")
	}
	empty := api.Family{Layouts: []api.Layout{}, Cols: []api.Column{}}
	if !schema.Same(api.Schema{Fams: []api.Family{{}}}, api.Schema{Fams: []api.Family{empty}}) || !schema.Same(api.Schema{Fams: []api.Family{empty}}, api.Schema{Fams: []api.Family{{}}}) {
		t.Error("no layouts and columns aren't none")
	}
}

func TestClone(t *testing.T) {
	for _, s := range slices.Concat(rightSchemas(), wrongSchemas(), variants(), untold()) {
		if c := schema.Clone(s); !equal(c, s) {
			t.Errorf("%+v, not %+v", c, s)
		}
	}
}

// roomy is base with spare room behind each list, and in it marks.
func roomy() api.Schema {
	s := base()
	for i := range s.Fams {
		f := &s.Fams[i]
		f.Layouts = append(f.Layouts, layouts(77, 77, 78, 78)...)[:len(f.Layouts)]
		f.Cols = append(f.Cols, api.Column{Qual: "mark"}, api.Column{Qual: "mark"})[:len(f.Cols)]
	}
	s.Fams = append(s.Fams, family("mark"), family("mark"))[:len(s.Fams)]
	return s
}

// kept tells whether a schema is roomy still, its spare room too.
func kept(s api.Schema) bool {
	was := roomy()
	for i, f := range s.Fams[:len(s.Fams)+2] {
		mark := was.Fams[:len(was.Fams)+2][i]
		if i < len(s.Fams) {
			f.Layouts, f.Cols = f.Layouts[:len(f.Layouts)+2], f.Cols[:len(f.Cols)+2]
			mark.Layouts, mark.Cols = mark.Layouts[:len(mark.Layouts)+2], mark.Cols[:len(mark.Cols)+2]
		}
		if !equalFamilies(f, mark) {
			return false
		}
	}
	return equal(s, was)
}

func fill[T any](l []T, x T) {
	l = l[:cap(l)]
	for i := range l {
		l[i] = x
	}
}

// spoil writes over all that an answered family lies in.
func spoil(f api.Family) {
	fill(f.Layouts, api.Layout{Group: -9, State: -9})
	fill(f.Cols, api.Column{Qual: "spoiled"})
}

func TestArgumentsStay(t *testing.T) {
	s := roomy()
	for range 2 {
		schema.Right(s)
		schema.Same(s, s)
		if b, ok := schema.Encode(s); ok {
			fill(b, 0)
		}
		c := schema.Clone(s)
		_ = append(c.Fams, family("more"))
		for _, f := range c.Fams {
			spoil(f)
		}
		fill(c.Fams, api.Family{Name: "spoiled"})
		for _, f := range s.Fams {
			schema.Column(f, "q")
			schema.Read(f)
			fill(schema.Written(f), -9)
			fill(schema.Gone(f), -9)
			found, _ := schema.Find(s, f.Name)
			_, _ = append(found.Layouts, api.Layout{}), append(found.Cols, api.Column{})
			spoil(found)
		}
		if !kept(s) {
			t.Fatalf("what was handed in is changed: %+v", s)
		}
	}
	b := []byte(told(base()) + "marks")
	before := bytes.Clone(b)
	b = b[:len(b)-len("marks")]
	c, _ := schema.Decode(b)
	for _, f := range c.Fams {
		spoil(f)
	}
	fill(c.Fams, api.Family{Name: "spoiled"})
	if !bytes.Equal(b[:len(before)], before) {
		t.Error("bytes that were handed in are changed")
	}
}

// What was answered stays as it was, whatever is done to what was handed in.
func TestKeepsNothing(t *testing.T) {
	s := base()
	b := []byte(told(s))
	decoded, _ := schema.Decode(b)
	clone := schema.Clone(s)
	found, _ := schema.Find(s, "f")
	written, gone := schema.Written(s.Fams[0]), schema.Gone(s.Fams[0])
	encoded, _ := schema.Encode(s)
	for _, f := range s.Fams {
		spoil(f)
	}
	fill(s.Fams, api.Family{Name: "spoiled"})
	fill(b, 0)
	if !equal(decoded, base()) || !equal(clone, base()) || !equalFamilies(found, base().Fams[0]) || string(encoded) != told(base()) {
		t.Error("what was handed in is kept")
	}
	if !slices.Equal(written, []int{0, 1}) || !slices.Equal(gone, []int{0, 1}) {
		t.Error("layouts are kept")
	}
}

// apart holds that no two lists of an answered schema share memory, spare room too.
func apart(t *testing.T, what string, s api.Schema) {
	t.Helper()
	for i := range s.Fams {
		other := copied(s)
		_, _ = append(s.Fams[i].Layouts, layouts(-9, -9, -9, -9)...), append(s.Fams[i].Cols, make([]api.Column, 20)...)
		spoil(s.Fams[i])
		for k := range s.Fams {
			if k != i && !equalFamilies(s.Fams[k], other.Fams[k]) {
				t.Errorf("%s: families %d and %d share", what, i, k)
			}
		}
	}
}

func TestListsApart(t *testing.T) {
	l := rightSchemas()
	for _, f := range []api.Family{family("f"), full().Fams[0]} {
		// Families that share their lists are handed in, too.
		l = append(l, api.Schema{Version: 1, Fams: []api.Family{f, f, f}})
	}
	for _, s := range l {
		apart(t, "Clone", schema.Clone(s))
		if d, ok := schema.Decode([]byte(told(s))); ok {
			apart(t, "Decode", d)
		}
	}
}

// right is told by the words of the chapter, one after another.
func right(s api.Schema) bool {
	if s.Version < 1 || s.Version > 1<<40 || len(s.Fams) > 6 {
		return false
	}
	for i, f := range s.Fams {
		for _, g := range s.Fams[:i] {
			if f.Name == g.Name {
				return false
			}
		}
		if !rightFamily(f) {
			return false
		}
	}
	if s.Change.Kind == 0 {
		return s.Change == api.Change{} && s.Step == 0
	}
	return s.Change.Kind >= 1 && s.Change.Kind <= 5 && s.Step >= 1 && s.Step <= 9
}

func rightFamily(f api.Family) bool {
	if len(f.Name) < 1 || len(f.Name) > 8 || strings.Trim(f.Name, "abcdefghijklmnopqrstuvwxyz0123456789") != "" {
		return false
	}
	if f.Versions < 1 || f.Versions > 8 || f.Life < 0 || f.Life > 1<<40 || len(f.Cols) > 8 {
		return false
	}
	switch len(f.Layouts) {
	case 1:
	case 2:
		a, b := f.Layouts[0], f.Layouts[1]
		if a.Group == b.Group || a.State == 3 && b.State == 3 {
			return false
		}
	default:
		return false
	}
	for _, o := range f.Layouts {
		if o.Group < 0 || o.Group > 2 || o.State < 1 || o.State > 3 {
			return false
		}
	}
	for i, c := range f.Cols {
		for _, d := range f.Cols[:i] {
			if c.Qual == d.Qual {
				return false
			}
		}
		if len(c.Qual) > 12 || c.Kind < 1 || c.Kind > 5 || c.State < 1 || c.State > 3 {
			return false
		}
	}
	return true
}

// some is a schema of few words, so that many are right, and many almost.
func some(r *rand.Rand) api.Schema {
	odd := func(n, least, most int) int {
		if r.Intn(200) == 0 {
			return []int{0, -1, least - 1, most + 1, math.MinInt, math.MaxInt}[r.Intn(6)]
		}
		return n
	}
	pick := func(least, most int) int { return odd(least+r.Intn(most-least+1), least, most) }
	text := func(l string) string {
		i := r.Intn(len(l))
		return l[i : i+r.Intn(min(3, len(l)-i)+1)]
	}
	s := api.Schema{Version: pick(1, api.MaxClock)}
	for range r.Intn(5) {
		f := api.Family{Name: text("abcdefghijklmnopqrst"), Versions: pick(1, 8), Life: pick(0, api.MaxClock)}
		for range 1 + r.Intn(2) {
			f.Layouts = append(f.Layouts, api.Layout{Group: pick(0, 2), State: pick(1, 3)})
		}
		for range r.Intn(3) {
			f.Cols = append(f.Cols, api.Column{Qual: text("\x00\x01pqrstuvw\xff"), Kind: pick(1, 5), State: pick(1, 3)})
		}
		s.Fams = append(s.Fams, f)
	}
	if r.Intn(2) == 0 {
		s.Change = api.Change{Kind: pick(1, 5), Fam: text("abcdefgh"), Qual: text("\x00pqr\xff"), Type: pick(0, 5), Group: pick(0, 2), Versions: pick(0, 8), Life: pick(0, api.MaxClock)}
		s.Step = pick(1, 9)
	}
	return s
}

// holds asks all calls of a schema, beside what is told plainly.
func holds(t *testing.T, s api.Schema) bool {
	t.Helper()
	is := right(s)
	if schema.Right(s) != is {
		t.Errorf("%+v: right %t", s, !is)
	}
	c := s.Change
	has := is && c.Type >= 0 && c.Group >= 0 && c.Versions >= 0 && c.Life >= 0 && len(c.Fam) <= mostText && len(c.Qual) <= mostText
	b, ok := schema.Encode(s)
	if ok != has || ok && string(b) != told(s) || !ok && len(b) != 0 {
		t.Errorf("%+v: %q, %t", s, b, ok)
	}
	if has {
		decodes(t, told(s), s, true)
	} else if !below(s) {
		none(t, told(s))
	}
	if !equal(schema.Clone(s), s) || !schema.Same(s, copied(s)) {
		t.Errorf("%+v: Clone, Same", s)
	}
	return is
}

func TestBesideThePlainOne(t *testing.T) {
	r := rand.New(rand.NewSource(14))
	count := 0
	for range 50000 {
		if holds(t, some(r)) {
			count++
		}
		if t.Failed() {
			return
		}
	}
	if count < 10000 || count > 40000 {
		t.Errorf("%d are right", count)
	}
}

// Each call ends and none panics, at great arguments too.
func TestEnds(t *testing.T) {
	const great = 1 << 18
	f := api.Family{Name: many("f", great), Layouts: make([]api.Layout, great), Cols: make([]api.Column, great)}
	for i := range great {
		f.Layouts[i], f.Cols[i] = api.Layout{Group: i, State: i % 5}, api.Column{Qual: many("q", i%9), Kind: i % 7, State: i % 5}
	}
	s := api.Schema{Version: 1, Fams: make([]api.Family, great), Change: api.Change{Kind: 1, Fam: many("f", great), Qual: many("q", great)}, Step: 1}
	s.Fams[great-1] = f
	for _, s := range []api.Schema{s, {Version: 1, Fams: []api.Family{f}}, {}} {
		if b, ok := schema.Encode(s); schema.Right(s) || len(b) != 0 || ok {
			t.Error("a great one is right")
		}
		if c := schema.Clone(s); !schema.Same(c, s) || !schema.Same(s, s) {
			t.Error("a great one isn't itself")
		}
	}
	finds(t, s, f.Name, f, true)
	if c, ok := schema.Column(f, many("q", 8)); !ok || c != f.Cols[8] {
		t.Error(c, ok)
	}
	if _, ok := schema.Column(f, "none"); ok {
		t.Error("there is none")
	}
	reads(t, f, 3, true)
	var written, gone []int
	for i := range great {
		if i%5 == 2 || i%5 == 3 {
			written = append(written, i)
		}
		if i%5 != 0 {
			gone = append(gone, i)
		}
	}
	if !slices.Equal(schema.Written(f), written) || !slices.Equal(schema.Gone(f), gone) {
		t.Error("other groups")
	}
}

func FuzzDecode(f *testing.F) {
	for _, s := range []api.Schema{{Version: 1}, base(), full()} {
		f.Add([]byte(told(s)))
	}
	f.Add([]byte(""))
	f.Add([]byte("\xff\xff\xff"))
	f.Fuzz(func(t *testing.T, b []byte) {
		s, ok := schema.Decode(b)
		if ok != right(s) || ok && told(s) != string(b) || !ok && !equal(s, api.Schema{}) {
			t.Errorf("%q: %+v, %t", b, s, ok)
		}
	})
}

func FuzzSchema(f *testing.F) {
	f.Add("f", 1, 0, 0, 3, 1, 2, "q", 1, 3, 1, 5, "f", "", 0, 1, 0, 0, 1)
	f.Add("", 0, -1, 3, 0, 3, 4, "qqqqqqqqqqqqq", 6, 0, 0, 0, "", "", 0, 0, 0, 0, 0)
	f.Fuzz(func(t *testing.T, name string, versions, life, group, state, group2, state2 int, qual string, kind, cstate, version, change int, cfam, cqual string, ctype, cgroup, cversions, clife, step int) {
		x := api.Family{Name: name, Versions: versions, Life: life, Layouts: layouts(group, state), Cols: []api.Column{{Qual: qual, Kind: kind, State: cstate}}}
		y := api.Family{Name: "y", Versions: versions, Life: life, Layouts: layouts(group, state, group2, state2), Cols: []api.Column{{Qual: "q", Kind: 1, State: 1}, {Qual: qual, Kind: kind, State: cstate}}}
		c := api.Change{Kind: change, Fam: cfam, Qual: cqual, Type: ctype, Group: cgroup, Versions: cversions, Life: clife}
		for _, fams := range [][]api.Family{nil, {x}, {y}, {x, y}} {
			holds(t, api.Schema{Version: version, Fams: fams})
			s := api.Schema{Version: version, Fams: fams, Change: c, Step: step}
			holds(t, s)
			for _, n := range []string{name, "y", qual} {
				i := slices.IndexFunc(fams, func(f api.Family) bool { return f.Name == n })
				if i >= 0 {
					finds(t, s, n, fams[i], true)
				} else {
					finds(t, s, n, api.Family{}, false)
				}
			}
		}
	})
}
