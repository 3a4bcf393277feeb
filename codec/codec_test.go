package codec_test

import (
	"bytes"
	"cmp"
	"math"
	"slices"
	"strings"
	"testing"

	"joist/api"
	"joist/codec"
	"joist/float"
	"joist/val"
)

func whole(n int) api.Value       { return api.Value{Kind: api.VInt, N: n} }
func text(s string) api.Value     { return api.Value{Kind: api.VText, S: s} }
func many(s string, n int) string { return strings.Repeat(s, n) }

func put(row, fam, qual string, time int, v api.Value) api.Cell {
	return api.Cell{Row: row, Fam: fam, Qual: qual, Time: time, Kind: api.CPut, Val: v}
}

func gone(kind int, row, fam, qual string, time int) api.Cell {
	return api.Cell{Row: row, Fam: fam, Qual: qual, Time: time, Kind: kind}
}

const (
	seven = "\x01\x80\x00\x00\x00\x00\x00\x00\x07" // the value 7
	t0    = "\x7f\xff\xff\xff\xff\xff\xff\xff"     // time 0
	t1    = "\x7f\xff\xff\xff\xff\xff\xff\xfe"
	t9    = "\x7f\xff\xff\xff\xff\xff\xff\xf6"
	t256  = "\x7f\xff\xff\xff\xff\xff\xfe\xff"
	tMax  = "\x7f\xff\xfe\xff\xff\xff\xff\xff"
)

// form is a right cell with its key, and what stands behind that in its bytes.
type form struct {
	c          api.Cell
	key, value string
}

// forms are right cells in their order, each edge with its neighbours.
func forms() []form {
	row16, qual12 := many("\xff", api.MaxRow), many("\xff", api.MaxQual)
	return []form{
		{put("\x00", "f", "q", 1, whole(7)), "\x00\xff\x00\x01f\x00\x01q\x00\x01" + t1 + "\xfe", seven},
		{put("\x00\x00", "f", "q", 1, whole(7)), "\x00\xff\x00\xff\x00\x01f\x00\x01q\x00\x01" + t1 + "\xfe", seven},
		{put(many("\x00", 16), "f", many("\x00", 12), 1, whole(7)), many("\x00\xff", 16) + "\x00\x01f\x00\x01" + many("\x00\xff", 12) + "\x00\x01" + t1 + "\xfe", seven},
		{put("\x01", "f", "q", 1, whole(7)), "\x01\x00\x01f\x00\x01q\x00\x01" + t1 + "\xfe", seven},
		{put("a", "0", "", 0, text("")), "a\x00\x010\x00\x01\x00\x01" + t0 + "\xfe", "\x03\x00\x01"},
		{put("a", "9z", "", 0, text("")), "a\x00\x019z\x00\x01\x00\x01" + t0 + "\xfe", "\x03\x00\x01"},
		{gone(api.CFamily, "a", "f", "", api.MaxClock), "a\x00\x01f\x00\x01\x00\x00" + tMax + "\xfb", ""},
		{gone(api.CFamily, "a", "f", "", 256), "a\x00\x01f\x00\x01\x00\x00" + t256 + "\xfb", ""},
		{gone(api.CFamily, "a", "f", "", 9), "a\x00\x01f\x00\x01\x00\x00" + t9 + "\xfb", ""},
		{gone(api.CFamily, "a", "f", "", 0), "a\x00\x01f\x00\x01\x00\x00" + t0 + "\xfb", ""},
		{gone(api.CColumn, "a", "f", "", api.MaxClock), "a\x00\x01f\x00\x01\x00\x01" + tMax + "\xfc", ""},
		{put("a", "f", "", api.MaxClock, whole(7)), "a\x00\x01f\x00\x01\x00\x01" + tMax + "\xfe", seven},
		{gone(api.CColumn, "a", "f", "", 1), "a\x00\x01f\x00\x01\x00\x01" + t1 + "\xfc", ""},
		{gone(api.CCell, "a", "f", "", 1), "a\x00\x01f\x00\x01\x00\x01" + t1 + "\xfd", ""},
		{put("a", "f", "", 1, text("\x00x")), "a\x00\x01f\x00\x01\x00\x01" + t1 + "\xfe", "\x03\x00\xffx\x00\x01"},
		{put("a", "f", "", 0, whole(7)), "a\x00\x01f\x00\x01\x00\x01" + t0 + "\xfe", seven},
		{put("a", "f", "\x00", 0, whole(7)), "a\x00\x01f\x00\x01\x00\xff\x00\x01" + t0 + "\xfe", seven},
		{put("a", "f", "\x01", 0, whole(7)), "a\x00\x01f\x00\x01\x01\x00\x01" + t0 + "\xfe", seven},
		{gone(api.CCell, "a", "f", "q", 9), "a\x00\x01f\x00\x01q\x00\x01" + t9 + "\xfd", ""},
		{put("a", "f", "q", 1, whole(7)), "a\x00\x01f\x00\x01q\x00\x01" + t1 + "\xfe", seven},
		{put("a", "f", "q\x00", 9, whole(7)), "a\x00\x01f\x00\x01q\x00\xff\x00\x01" + t9 + "\xfe", seven},
		{put("a", "f", "q\x00\x01", 9, whole(7)), "a\x00\x01f\x00\x01q\x00\xff\x01\x00\x01" + t9 + "\xfe", seven},
		{put("a", "f", "q\x01", 9, whole(7)), "a\x00\x01f\x00\x01q\x01\x00\x01" + t9 + "\xfe", seven},
		{put("a", "f", "qq", 9, whole(7)), "a\x00\x01f\x00\x01qq\x00\x01" + t9 + "\xfe", seven},
		{put("a", "f", qual12, 9, whole(7)), "a\x00\x01f\x00\x01" + qual12 + "\x00\x01" + t9 + "\xfe", seven},
		{gone(api.CFamily, "a", "f0", "", 1), "a\x00\x01f0\x00\x01\x00\x00" + t1 + "\xfb", ""},
		{put("a", "zzzzzzzz", "q", 1, whole(7)), "a\x00\x01zzzzzzzz\x00\x01q\x00\x01" + t1 + "\xfe", seven},
		{put("a\x00", "f", "q", 1, whole(7)), "a\x00\xff\x00\x01f\x00\x01q\x00\x01" + t1 + "\xfe", seven},
		{put("a\x00\x01f", "f", "q", 1, whole(7)), "a\x00\xff\x01f\x00\x01f\x00\x01q\x00\x01" + t1 + "\xfe", seven},
		{put("a\x01", "f", "q", 1, whole(7)), "a\x01\x00\x01f\x00\x01q\x00\x01" + t1 + "\xfe", seven},
		{put("aa", "f", "q", 1, whole(7)), "aa\x00\x01f\x00\x01q\x00\x01" + t1 + "\xfe", seven},
		{put(row16, "f", "q", 1, whole(7)), row16 + "\x00\x01f\x00\x01q\x00\x01" + t1 + "\xfe", seven},
	}
}

// wrong are cells that aren't right, each by one thing alone.
func wrong() []api.Cell {
	ok := put("a", "f", "q", 1, whole(7))
	with := func(f func(c *api.Cell)) api.Cell { c := ok; f(&c); return c }
	l := []api.Cell{
		{},
		with(func(c *api.Cell) { c.Row = "" }),
		with(func(c *api.Cell) { c.Row = many("r", api.MaxRow+1) }),
		with(func(c *api.Cell) { c.Fam = "" }),
		with(func(c *api.Cell) { c.Fam = many("f", api.MaxName+1) }),
		with(func(c *api.Cell) { c.Qual = many("q", api.MaxQual+1) }),
		with(func(c *api.Cell) { c.Time = -1 }),
		with(func(c *api.Cell) { c.Time = math.MinInt }),
		with(func(c *api.Cell) { c.Time = api.MaxClock + 1 }),
		with(func(c *api.Cell) { c.Time = math.MaxInt }),
		with(func(c *api.Cell) { c.Val = api.Value{} }),
		with(func(c *api.Cell) { c.Val.S = "x" }),
		with(func(c *api.Cell) { c.Val = text("\xff") }),
		with(func(c *api.Cell) { c.Val = api.Value{Kind: api.VFloat, N: -1} }),
		gone(api.CFamily, "a", "f", "q", 1),
	}
	for _, k := range []int{math.MinInt, -1, 0, 5, 255, 256, 257, 258, math.MaxInt} {
		l = append(l, with(func(c *api.Cell) { c.Kind = k }), gone(k, "a", "f", "q", 1))
	}
	for _, k := range []int{api.CCell, api.CColumn, api.CFamily} {
		for _, v := range []api.Value{whole(7), {Kind: api.VInt}, {N: 1}, {S: "x"}} {
			c := gone(k, "a", "f", "", 1)
			c.Val = v
			l = append(l, c)
		}
	}
	for _, x := range "/:`{A_\x00\x7f\u00e4" {
		l = append(l, with(func(c *api.Cell) { c.Fam = "f" + string(x) }), with(func(c *api.Cell) { c.Fam = string(x) }))
	}
	return append(l, with(func(c *api.Cell) { c.Fam = "\xe1" }))
}

func sign(n int) int { return cmp.Compare(n, 0) }

func TestForms(t *testing.T) {
	for _, f := range forms() {
		if !codec.Right(f.c) {
			t.Errorf("%#v isn't right", f.c)
		}
		if b, ok := codec.Key(f.c); !ok || string(b) != f.key {
			t.Errorf("Key of %#v: %#v, %v", f.c, b, ok)
		}
		if b, ok := codec.Encode(f.c); !ok || string(b) != f.key+f.value {
			t.Errorf("Encode of %#v: %#v, %v", f.c, b, ok)
		}
		if c, ok := codec.Decode([]byte(f.key + f.value)); !ok || c != f.c {
			t.Errorf("Decode: %#v, %v, not %#v", c, ok, f.c)
		}
	}
}

func TestNamesOfAllLetters(t *testing.T) {
	for x := range 256 {
		c := put("a", string([]byte{'a', byte(x)}), "q", 1, whole(7))
		is := x >= 'a' && x <= 'z' || x >= '0' && x <= '9'
		if codec.Right(c) != is {
			t.Errorf("a family's byte %d", x)
		}
		c = put(string([]byte{byte(x)}), "f", string([]byte{byte(x)}), 1, whole(7))
		b, ok := codec.Encode(c)
		if d, is := codec.Decode(b); !ok || !is || d != c {
			t.Errorf("a row's and a qualifier's byte %d", x)
		}
	}
}

func TestWrongCells(t *testing.T) {
	for _, c := range wrong() {
		if codec.Right(c) {
			t.Errorf("%#v is right", c)
		}
		if b, ok := codec.Key(c); ok || len(b) != 0 {
			t.Errorf("Key of %#v: %#v", c, b)
		}
		if b, ok := codec.Encode(c); ok || len(b) != 0 {
			t.Errorf("Encode of %#v: %#v", c, b)
		}
	}
}

func TestOrderIsThatOfKeys(t *testing.T) {
	l := forms()
	for i, a := range l {
		for j, b := range l {
			want := cmp.Compare(i, j)
			if got := codec.Order(a.c, b.c); got != want {
				t.Errorf("Order of %#v and %#v: %d", a.c, b.c, got)
			}
			if sign(strings.Compare(a.key, b.key)) != want {
				t.Errorf("keys of %#v and %#v", a.c, b.c)
			}
			if i != j && strings.HasPrefix(a.key, b.key) {
				t.Errorf("the key of %#v begins with that of %#v", a.c, b.c)
			}
		}
	}
}

func TestOrderOfManyCells(t *testing.T) {
	var l []api.Cell
	for _, row := range []string{"\x00", "\x00\x01", "a", "a\x00", "a\x00\x00", "a\xff", "b"} {
		for _, fam := range []string{"a", "a0", "aa", "b"} {
			for _, time := range []int{0, 1, 255, 256, api.MaxClock} {
				l = append(l, gone(api.CFamily, row, fam, "", time))
				for _, qual := range []string{"", "\x00", "\x00\x00", "\x01", "q", "q\x00"} {
					l = append(l, gone(api.CColumn, row, fam, qual, time), gone(api.CCell, row, fam, qual, time), put(row, fam, qual, time, whole(time)))
				}
			}
		}
	}
	var keys [][]byte
	for _, c := range l {
		k, _ := codec.Key(c)
		keys = append(keys, k)
		b, _ := codec.Encode(c)
		if d, ok := codec.Decode(b); !ok || d != c {
			t.Fatalf("%#v", c)
		}
	}
	for i := range l {
		for j := range l {
			want := bytes.Compare(keys[i], keys[j])
			if codec.Order(l[i], l[j]) != want || (want == 0) != (i == j) {
				t.Fatalf("%#v and %#v", l[i], l[j])
			}
			if i != j && bytes.HasPrefix(keys[i], keys[j]) {
				t.Fatalf("%q begins with %q", keys[i], keys[j])
			}
		}
	}
}

func TestOrderOfAnyCells(t *testing.T) {
	l := []api.Cell{
		{Kind: api.CFamily, Time: math.MinInt},
		{Kind: api.CFamily, Qual: "a", Time: math.MaxInt},
		{Kind: api.CFamily, Qual: "a", Time: math.MinInt},
		{Time: math.MaxInt, Kind: math.MaxInt},
		{Time: math.MaxInt, Kind: 5},
		{Time: math.MaxInt, Kind: math.MinInt},
		{Time: -1},
		{Time: math.MinInt},
		{Qual: "\x00", Time: 1},
		{Qual: many("q", 100)},
		{Fam: "\xff\xff", Kind: api.CFamily},
		{Fam: "\xff\xff", Kind: 1},
		{Row: many("r", 99), Kind: 1},
	}
	for i, a := range l {
		for j, b := range l {
			if got := codec.Order(a, b); got != cmp.Compare(i, j) {
				t.Errorf("Order of %#v and %#v: %d", a, b, got)
			}
			b.Val = api.Value{Kind: i, N: j, S: "x"}
			if got := codec.Order(a, b); got != cmp.Compare(i, j) {
				t.Errorf("a value counts: Order of %#v and %#v: %d", a, b, got)
			}
		}
	}
	if codec.Order(put("a", "f", "q", 1, whole(7)), put("a", "f", "q", 1, whole(8))) != 0 {
		t.Error("a value counts")
	}
}

func TestDecodeOfOtherBytes(t *testing.T) {
	for i, s := range []string{
		"",
		"\x00",
		"\x00\x01",
		"a",
		"a\x00\x01f\x00\x01q\x00\x01" + t1,
		"a\x00\x01f\x00\x01q\x00\x01" + t1[:7] + "\xfe" + seven,
		"a\x00\x01f\x00\x01q\x00\x01" + t1 + "\xfe",
		"a\x00\x01f\x00\x01q\x00\x01" + t1 + "\xfe" + seven + "\x00",
		"a\x00\x01f\x00\x01q\x00\x01" + t1 + "\xfe\x03\xff\x00\x01",
		"a\x00\x01f\x00\x01q\x00\x01" + t1 + "\xff",
		"a\x00\x01f\x00\x01q\x00\x01" + t1 + "\xff" + seven,
		"a\x00\x01f\x00\x01q\x00\x01" + t1 + "\xfa",
		"a\x00\x01f\x00\x01q\x00\x01" + t1 + "\x00",
		"a\x00\x01f\x00\x01q\x00\x01" + t1 + "\xfd\x00",
		"a\x00\x01f\x00\x01q\x00\x01" + t1 + "\xfc" + seven,
		"a\x00\x01f\x00\x01q\x00\x01" + t1 + "\xfb",
		"a\x00\x01f\x00\x01\x00\x01" + t1 + "\xfb",
		"a\x00\x01f\x00\x01\x00\x00" + t1 + "\xfe" + seven,
		"a\x00\x01f\x00\x01\x00\x00" + t1 + "\xfd",
		"a\x00\x01f\x00\x01\x00\x00" + t1 + "\xfc",
		"a\x00\x01f\x00\x01\x00\x00" + t1 + "\xfb\x00",
		"a\x00\x01f\x00\x01\x00\x00\x00\x01" + t1 + "\xfb",
		"a\x00\x01f\x00\x01q\x00\x00" + t1 + "\xfb",
		"a\x00\x00" + t1 + "\xfb",
		"a\x00\x00f\x00\x01q\x00\x01" + t1 + "\xfe" + seven,
		"a\x00\x01f\x00\x00q\x00\x01" + t1 + "\xfe" + seven,
		"a\x00\x02f\x00\x01q\x00\x01" + t1 + "\xfe" + seven,
		"a\x00\xfff\x00\x01q\x00\x01" + t1 + "\xfe" + seven,
		"\x00\x01f\x00\x01q\x00\x01" + t1 + "\xfe" + seven,
		many("a", 17) + "\x00\x01f\x00\x01q\x00\x01" + t1 + "\xfe" + seven,
		"a\x00\x01\x00\x01q\x00\x01" + t1 + "\xfe" + seven,
		"a\x00\x01F\x00\x01q\x00\x01" + t1 + "\xfe" + seven,
		"a\x00\x01fffffffff\x00\x01q\x00\x01" + t1 + "\xfe" + seven,
		"a\x00\x01f\x00\x01" + many("q", 13) + "\x00\x01" + t1 + "\xfe" + seven,
		"a\x00\x01f\x00\x01q\x00\x01\x7f\xff\xfe\xff\xff\xff\xff\xfe\xfe" + seven,
		"a\x00\x01f\x00\x01q\x00\x01\x00\x00\x00\x00\x00\x00\x00\x00\xfe" + seven,
		"a\x00\x01f\x00\x01q\x00\x01\x80\x00\x00\x00\x00\x00\x00\x00\xfe" + seven,
		"a\x00\x01f\x00\x01q\x00\x01\xff\xff\xff\xff\xff\xff\xff\xff\xfe" + seven,
		"a\x00\x01f\x00\x01q\x00\x01\xff\xff\xfe\xff\xff\xff\xff\xff\xfe" + seven,
		many("\x00", 1000),
		many("\x00\xff", 1000),
		many("a", 1<<20),
	} {
		if c, ok := codec.Decode([]byte(s)); ok || c != (api.Cell{}) {
			t.Errorf("%d: %#v", i, c)
		}
	}
}

// What is decoded at all has just the bytes that Encode tells.
func TestDecodeOfChangedBytes(t *testing.T) {
	for _, f := range forms() {
		s := []byte(f.key + f.value)
		for i := range s {
			if c, ok := codec.Decode(s[:i]); ok || c != (api.Cell{}) {
				t.Errorf("%#v, cut off: %#v", s[:i], c)
			}
			for _, x := range []byte{0, 1, 2, 0x7f, 0x80, 0xfa, 0xfb, 0xfc, 0xfd, 0xfe, 0xff, s[i] ^ 1, s[i] ^ 0x20} {
				b := bytes.Clone(s)
				b[i] = x
				c, ok := codec.Decode(b)
				if back, is := codec.Encode(c); ok != is || ok && !bytes.Equal(back, b) {
					t.Errorf("%#v: %#v, %v", b, c, ok)
				}
			}
		}
	}
}

func TestFirst(t *testing.T) {
	for _, f := range []struct{ row, want string }{
		{"", "\x00\x01"},
		{"a", "a\x00\x01"},
		{"\x00", "\x00\xff\x00\x01"},
		{"a\x00\x01b\xff", "a\x00\xff\x01b\xff\x00\x01"},
		{many("\x00", 40), many("\x00\xff", 40) + "\x00\x01"},
		{many("r", 1000), many("r", 1000) + "\x00\x01"},
	} {
		if b := codec.First(f.row); string(b) != f.want {
			t.Errorf("First(%q): %q", f.row, b)
		}
	}
	for _, a := range forms() {
		for _, b := range forms() {
			if strings.HasPrefix(b.key, string(codec.First(a.c.Row))) != (a.c.Row == b.c.Row) {
				t.Errorf("the row of %#v, and %#v", a.c, b.c)
			}
		}
	}
}

type numForm struct {
	n int
	b string
}

func nums() []numForm {
	return []numForm{
		{0, "\x00"},
		{1, "\x01"},
		{127, "\x7f"},
		{128, "\x80\x01"},
		{255, "\xff\x01"},
		{256, "\x80\x02"},
		{300, "\xac\x02"},
		{16383, "\xff\x7f"},
		{16384, "\x80\x80\x01"},
		{65536, "\x80\x80\x04"},
		{1<<56 - 1, "\xff\xff\xff\xff\xff\xff\xff\x7f"},
		{1 << 56, "\x80\x80\x80\x80\x80\x80\x80\x80\x01"},
		{math.MaxInt, "\xff\xff\xff\xff\xff\xff\xff\xff\x7f"},
	}
}

func TestNumbers(t *testing.T) {
	for _, f := range nums() {
		if b := codec.Num(f.n); string(b) != f.b {
			t.Errorf("Num(%d): %q", f.n, b)
		}
		for _, rest := range []string{"", "\x00", "rest", f.b} {
			if n, r, ok := codec.Take([]byte(f.b + rest)); n != f.n || string(r) != rest || !ok {
				t.Errorf("Take(%q): %d, %q, %v", f.b+rest, n, r, ok)
			}
		}
	}
	for _, n := range []int{-1, -128, math.MinInt, math.MinInt + 1} {
		if b := codec.Num(n); len(b) != 0 {
			t.Errorf("Num(%d): %q", n, b)
		}
	}
	for n := 1; n > 0; n *= 2 {
		for _, m := range []int{n - 1, n, n + 1} {
			if k, r, ok := codec.Take(codec.Num(m)); k != m || len(r) != 0 || !ok {
				t.Errorf("%d: %d, %q, %v", m, k, r, ok)
			}
		}
	}
}

func TestNoNumber(t *testing.T) {
	for _, s := range []string{
		"", "\x80", "\xff\xff", "\x80\x00", "\xff\x00", "\x80\x80\x00", "\x80\x00rest",
		"\x80\x80\x80\x80\x80\x80\x80\x80",
		"\x80\x80\x80\x80\x80\x80\x80\x80\x00",
		"\x80\x80\x80\x80\x80\x80\x80\x80\x80",
		"\x80\x80\x80\x80\x80\x80\x80\x80\x80\x01",
		"\xff\xff\xff\xff\xff\xff\xff\xff\xff\x01",
		"\xff\xff\xff\xff\xff\xff\xff\xff\xff\xff\x01",
		many("\xff", 1000),
	} {
		if n, r, ok := codec.Take([]byte(s)); n != 0 || len(r) != 0 || ok {
			t.Errorf("Take(%q): %d, %q, %v", s, n, r, ok)
		}
	}
}

func texts(l [][]byte) []string {
	var s []string
	for _, p := range l {
		s = append(s, string(p))
	}
	return s
}

func TestLists(t *testing.T) {
	hundred := many("\x01x", 200)
	for _, f := range []struct {
		l []string
		b string
	}{
		{nil, "\x00"},
		{[]string{""}, "\x01\x00"},
		{[]string{"a"}, "\x01\x01a"},
		{[]string{"", ""}, "\x02\x00\x00"},
		{[]string{"ab", "", "\x00"}, "\x03\x02ab\x00\x01\x00"},
		{[]string{many("x", 300)}, "\x01\xac\x02" + many("x", 300)},
		{slices.Repeat([]string{"x"}, 200), "\xc8\x01" + hundred},
	} {
		var l [][]byte
		for _, s := range f.l {
			l = append(l, []byte(s))
		}
		if b := codec.List(l); string(b) != f.b {
			t.Errorf("List(%q): %q", f.l, b)
		}
		if p, ok := codec.Parts([]byte(f.b)); !ok || !slices.Equal(texts(p), f.l) {
			t.Errorf("Parts(%q): %q, %v", f.b, p, ok)
		}
		for i := range f.b {
			if p, ok := codec.Parts([]byte(f.b[:i])); ok || len(p) != 0 {
				t.Errorf("Parts(%q): %q", f.b[:i], p)
			}
		}
		if p, ok := codec.Parts([]byte(f.b + "\x00")); ok || len(p) != 0 {
			t.Errorf("Parts(%q): %q", f.b+"\x00", p)
		}
	}
	if b := codec.List([][]byte{nil, {}}); string(b) != "\x02\x00\x00" {
		t.Errorf("a list of nil: %q", b)
	}
}

func TestNoList(t *testing.T) {
	greatest := string(codec.Num(math.MaxInt))
	for _, s := range []string{
		"", "\x80", "\x80\x00", "\x01", "\x02\x01a", "\x01\x02a", "\x01\x80\x00", "\x81\x00\x01a", "\x00a", "\x01\x01ab",
		greatest, greatest + "\x00", greatest + "\x01a", "\x01" + greatest, "\x01" + greatest + "a", greatest + many("\x00", 1000),
		many("\xff", 20),
	} {
		if p, ok := codec.Parts([]byte(s)); ok || len(p) != 0 {
			t.Errorf("Parts(%q): %q", s, p)
		}
	}
}

// full gives bytes with spare room, and what all of that holds.
func full(s string) []byte {
	b := append(make([]byte, 0, len(s)+8), s...)
	copy(b[len(b):cap(b)], "reserved")
	return b
}

// spoil writes over a list and its spare room.
func spoil(b []byte) {
	b = b[:cap(b)]
	for i := range b {
		b[i] = 0xee
	}
}

func TestArgumentsStayAndAnswersAreNew(t *testing.T) {
	c := put("a", "f", "q", 1, text("v"))
	enc, _ := codec.Encode(c)
	b := full(string(enc))
	before := string(b[:cap(b)])
	d, _ := codec.Decode(b)
	if string(b[:cap(b)]) != before {
		t.Error("Decode changes bytes")
	}
	spoil(b)
	if d != c {
		t.Errorf("Decode shares bytes: %#v", d)
	}

	b = full("\x05rest")
	before = string(b[:cap(b)])
	_, r, _ := codec.Take(b)
	spoil(r)
	if string(b[:cap(b)]) != before {
		t.Error("Take shares bytes")
	}

	b = full("\x03\x02ab\x00\x01c")
	before = string(b[:cap(b)])
	p, _ := codec.Parts(b)
	for i, want := range []string{"ab", "", "c"} {
		if string(p[i]) != want {
			t.Errorf("parts share bytes: %q", p)
		}
		spoil(p[i])
	}
	if string(b[:cap(b)]) != before {
		t.Error("Parts shares bytes")
	}

	b = full("part")
	before = string(b[:cap(b)])
	l := codec.List([][]byte{b, b[:1]})
	spoil(l)
	if string(b[:cap(b)]) != before {
		t.Error("List shares bytes")
	}

	for _, make := range []func() []byte{
		func() []byte { b, _ := codec.Key(c); return b },
		func() []byte { b, _ := codec.Encode(c); return b },
		func() []byte { return codec.First("a") },
		func() []byte { return codec.Num(300) },
		func() []byte { return codec.List(nil) },
	} {
		first := make()
		before := string(first)
		spoil(first)
		if string(make()) != before {
			t.Errorf("%q is shared", before)
		}
	}
}

func TestValuesOfAllKinds(t *testing.T) {
	for _, v := range []api.Value{
		whole(math.MinInt), text(many("\x00", api.MaxData)), {Kind: api.VBytes, S: "\xff"}, {Kind: api.VBool}, {Kind: api.VBool, N: 1},
		{Kind: api.VFloat, N: math.MinInt}, {Kind: api.VFloat, N: float.Of(math.NaN())}, {Kind: api.VFloat, N: float.Of(1.5)},
	} {
		c := put("a", "f", "q", 1, v)
		k, _ := codec.Key(c)
		e, _ := val.Encode(v)
		b, ok := codec.Encode(c)
		if d, is := codec.Decode(b); !ok || !is || d != c || !bytes.Equal(b, append(k, e...)) {
			t.Errorf("%#v: %#v, %#v", v, b, d)
		}
	}
}

func FuzzDecode(f *testing.F) {
	for _, x := range forms() {
		f.Add([]byte(x.key + x.value))
	}
	f.Fuzz(func(t *testing.T, b []byte) {
		if c, ok := codec.Decode(b); ok {
			if e, is := codec.Encode(c); !is || !bytes.Equal(e, b) {
				t.Errorf("%#v: %#v", b, c)
			}
		} else if c != (api.Cell{}) {
			t.Errorf("%#v: %#v", b, c)
		}
		if n, r, ok := codec.Take(b); ok {
			if !bytes.Equal(append(codec.Num(n), r...), b) {
				t.Errorf("%q: %d, %q", b, n, r)
			}
		}
		if p, ok := codec.Parts(b); ok {
			if !bytes.Equal(codec.List(p), b) {
				t.Errorf("%q: %q", b, p)
			}
		}
	})
}
