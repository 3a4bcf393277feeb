package block_test

import (
	"bytes"
	"math"
	"math/rand"
	"runtime"
	"slices"
	"strings"
	"testing"

	"joist/api"
	"joist/block"
	"joist/codec"
	"joist/val"
)

const most = 1000

func whole(n int) api.Value       { return api.Value{Kind: api.VInt, N: n} }
func text(s string) api.Value     { return api.Value{Kind: api.VText, S: s} }
func many(s string, n int) string { return strings.Repeat(s, n) }

// at is a cell of a column; a put's value is its time.
func at(kind int, row, fam, qual string, time int) api.Cell {
	c := api.Cell{Row: row, Fam: fam, Qual: qual, Time: time, Kind: kind}
	if kind == api.CPut {
		c.Val = whole(time)
	}
	return c
}

func put(time int) api.Cell { return at(api.CPut, "r", "f", "q", time) }

func with(c api.Cell, v api.Value) api.Cell {
	c.Val = v
	return c
}

// wrong are cells that aren't right.
func wrong() []api.Cell {
	return []api.Cell{
		{},
		at(api.CPut, "", "f", "q", 5),
		at(api.CPut, many("r", api.MaxRow+1), "f", "q", 5),
		at(api.CPut, "r", "", "q", 5),
		at(api.CPut, "r", "F", "q", 5),
		at(api.CPut, "r", "f\x00", "q", 5),
		at(api.CPut, "r", many("f", api.MaxName+1), "q", 5),
		at(api.CPut, "r", "f", many("q", api.MaxQual+1), 5),
		put(-1), put(math.MinInt), put(api.MaxClock + 1), put(math.MaxInt),
		at(api.CColumn, "r", "f", "q", api.MaxClock+1),
		at(api.CFamily, "r", "f", "", -1),
		with(put(5), api.Value{}),
		with(put(5), text("\xff")),
		with(put(5), text(many("x", api.MaxData+1))),
		with(put(5), api.Value{Kind: api.VBool, N: 2}),
		with(at(api.CColumn, "r", "f", "q", 5), whole(9)),
		with(at(api.CCell, "r", "f", "q", 5), whole(5)),
		with(at(api.CFamily, "r", "f", "", 5), whole(9)),
		at(api.CFamily, "r", "f", "q", 5),
		at(0, "r", "f", "q", 5), at(5, "r", "f", "q", 5), at(-1, "r", "f", "q", 5), at(api.CPut+256, "r", "f", "q", 5),
		at(math.MinInt, "r", "f", "q", 5), at(math.MaxInt, "r", "f", "q", 5),
	}
}

// inOrder are right cells, in order, no two of one place.
func inOrder() []api.Cell {
	return []api.Cell{
		at(api.CPut, "\x00", "f", "q", 1),
		at(api.CPut, "\x00\x00", "f", "q", 1),
		at(api.CFamily, "a", "f", "", 9),
		at(api.CFamily, "a", "f", "", 3),
		at(api.CColumn, "a", "f", "", 4),
		at(api.CCell, "a", "f", "", 4),
		with(at(api.CPut, "a", "f", "", 4), api.Value{Kind: api.VBool, N: 1}),
		at(api.CPut, "a", "f", "", 0),
		with(at(api.CPut, "a", "f", "\x00", 7), text("")),
		with(at(api.CPut, "a", "f", "\x00\x01", 7), text("a\x00b")),
		at(api.CPut, "a", "f", "q", 10),
		with(at(api.CPut, "a", "f", "q", 9), api.Value{Kind: api.VFloat}),
		at(api.CCell, "a", "f", "q", 8),
		with(at(api.CPut, "a", "f", many("q", api.MaxQual), 9), api.Value{Kind: api.VBytes, S: many("\x00", api.MaxData)}),
		at(api.CFamily, "a", "f0", "", 1),
		at(api.CPut, "a", "f0", "q", 9),
		at(api.CFamily, "a\x00", "f", "", 0),
		at(api.CPut, "a\x00", "f", "q", api.MaxClock),
		at(api.CPut, "aa", "0", "", 1),
		at(api.CPut, "b", many("z", api.MaxName), "q", 1),
		at(api.CFamily, "c", "a", "", api.MaxClock),
		at(api.CPut, "\xff", "a", "q", 1),
		at(api.CPut, many("\xff", api.MaxRow), "a", many("\x00", api.MaxQual), 1),
		at(api.CPut, many("\xff", api.MaxRow), "a", "\xff", 1),
	}
}

// rising are so many cells of one column, in order.
func rising(n int) []api.Cell {
	var l []api.Cell
	for i := range n {
		l = append(l, put(n-i))
	}
	return l
}

func same(t *testing.T, what string, got, want []api.Cell) {
	t.Helper()
	if !slices.Equal(got, want) {
		t.Errorf("%s: %v, not %v", what, got, want)
	}
}

func key(c api.Cell) []byte {
	b, _ := codec.Key(c)
	return b
}

// plainly are a block's bytes, told part by part as the chapter does; it asks
// for no order.
func plainly(l []api.Cell) []byte {
	b := codec.Num(len(l))
	ahead := ""
	for _, c := range l {
		k := string(key(c))
		n := len(k)
		for !strings.HasPrefix(ahead, k[:n]) {
			n--
		}
		b = append(b, slices.Concat(codec.Num(n), codec.Num(len(k)-n), []byte(k[n:]))...)
		if v, ok := val.Encode(c.Val); ok {
			b = append(b, slices.Concat(codec.Num(len(v)), v)...)
		}
		ahead = k
	}
	return b
}

// built are the bytes that Build makes of a block's cells.
func built(t *testing.T, l []api.Cell) []byte {
	t.Helper()
	b, ok := block.Build(l)
	if !ok || len(b) == 0 {
		t.Fatalf("Build of %v: %v, %v", l, b, ok)
	}
	return b
}

// isNone holds that bytes are no block's.
func isNone(t *testing.T, what string, b []byte) {
	t.Helper()
	if l, ok := block.Parse(b); ok || len(l) != 0 {
		t.Errorf("%s: Parse of %v: %v, %v", what, b, l, ok)
	}
	if c, ok := block.Find(b, api.Cell{}); ok || c != (api.Cell{}) {
		t.Errorf("%s: Find in %v: %v, %v", what, b, c, ok)
	}
}

// isBlock holds that cells are a block, and that its bytes tell them again.
func isBlock(t *testing.T, what string, l []api.Cell) []byte {
	t.Helper()
	b := built(t, l)
	if !bytes.Equal(b, plainly(l)) {
		t.Errorf("%s: %v, not %v", what, b, plainly(l))
	}
	got, ok := block.Parse(b)
	same(t, what, got, l)
	if !ok {
		t.Errorf("%s: Parse of %v: false", what, b)
	}
	return b
}

func TestBytes(t *testing.T) {
	r := []byte{'r', 0, 1, 'f', 0, 1}
	one := slices.Concat(r, []byte{'q', 0, 1, 127, 255, 255, 255, 255, 255, 255})
	for _, x := range []struct {
		what string
		l    []api.Cell
		want []byte
	}{
		{"none", nil, []byte{0}},
		{"a put", []api.Cell{put(5)}, slices.Concat([]byte{1, 0, 18}, one, []byte{250, 254, 9, 1, 128, 0, 0, 0, 0, 0, 0, 5})},
		{"what takes a column away", []api.Cell{at(api.CColumn, "r", "f", "q", 5)}, slices.Concat([]byte{1, 0, 18}, one, []byte{250, 252})},
		{"what takes a family away", []api.Cell{at(api.CFamily, "r", "f", "", 0)}, slices.Concat([]byte{1, 0, 17}, r, []byte{0, 0, 127, 255, 255, 255, 255, 255, 255, 255, 251})},
		{"two times of a column", []api.Cell{with(put(5), text("a")), at(api.CCell, "r", "f", "q", 3)}, slices.Concat([]byte{2, 0, 18}, one, []byte{250, 254, 4, 3, 'a', 0, 1}, []byte{16, 2, 252, 253})},
		{"two kinds of a time", []api.Cell{at(api.CCell, "r", "f", "q", 5), with(put(5), api.Value{Kind: api.VBool})}, slices.Concat([]byte{2, 0, 18}, one, []byte{250, 253}, []byte{17, 1, 254, 2, 4, 0})},
		{"two columns", []api.Cell{at(api.CCell, "r", "f", "", 5), at(api.CCell, "r", "f", "\x00", 5)}, slices.Concat([]byte{2, 0, 17}, r, []byte{0, 1, 127, 255, 255, 255, 255, 255, 255, 250, 253}, []byte{7, 12, 255, 0, 1, 127, 255, 255, 255, 255, 255, 255, 250, 253})},
		{"nothing alike", []api.Cell{at(api.CCell, "a", "f", "q", 5), at(api.CCell, "r", "f", "q", 5)}, slices.Concat([]byte{2, 0, 18, 'a', 0, 1, 'f', 0, 1}, one[6:], []byte{250, 253}, []byte{0, 18}, one, []byte{250, 253})},
	} {
		if b := isBlock(t, x.what, x.l); !bytes.Equal(b, x.want) {
			t.Errorf("%s: %v, not %v", x.what, b, x.want)
		}
	}
}

// The second one's key begins with all of the first one's, up to the time.
func TestExample(t *testing.T) {
	b := built(t, []api.Cell{put(9), put(5)})
	first := built(t, []api.Cell{put(9)})
	if n := int(b[len(first)]); n != len("r\x00\x01f\x00\x01q\x00\x01")+7 {
		t.Error(n)
	}
}

func TestBlocks(t *testing.T) {
	l := inOrder()
	for i := range l {
		isBlock(t, "one", l[i:i+1])
		for k := i; k <= len(l); k++ {
			isBlock(t, "some", l[i:k])
		}
		isBlock(t, "without one", slices.Delete(slices.Clone(l), i, i+1))
	}
	for _, n := range []int{126, 127, 128, 129, 999, most} {
		isBlock(t, "many", rising(n))
	}
	// A key of the most bytes, and a value of the most bytes.
	c := with(at(api.CPut, many("\x00", api.MaxRow), many("f", api.MaxName), many("\x00", api.MaxQual), 1), api.Value{Kind: api.VBytes, S: many("\x00", api.MaxData)})
	isBlock(t, "great", []api.Cell{c})
}

func TestBuildOfOthers(t *testing.T) {
	none := func(what string, l []api.Cell) {
		t.Helper()
		if b, ok := block.Build(l); ok || len(b) != 0 {
			t.Errorf("%s: Build of %v: %v, %v", what, l, b, ok)
		}
		// Their bytes, if they were written, are no block's.
		isNone(t, what, plainly(l))
	}
	none("too many", rising(most+1))
	none("far too many", rising(1<<14))
	good := inOrder()
	for _, w := range wrong() {
		none("wrong", []api.Cell{w})
		for _, i := range []int{0, 1, 9, len(good) - 1} {
			l := slices.Clone(good)
			l[i] = w
			none("one wrong", l)
		}
	}
	for i := range good {
		none("twice", slices.Insert(slices.Clone(good), i, good[i]))
		none("first again", append(slices.Clone(good), good[i]))
		for k := range i {
			l := slices.Clone(good)
			l[i], l[k] = l[k], l[i]
			none("out of order", l)
			none("two out of order", []api.Cell{good[i], good[k]})
		}
	}
	for _, v := range []api.Value{text(""), text("x"), whole(4), whole(6)} {
		none("one place, another value", []api.Cell{put(5), with(put(5), v)})
		none("one place, another value", []api.Cell{with(put(5), v), put(5)})
	}
}

func TestAllOfTheBytes(t *testing.T) {
	isNone(t, "nothing", nil)
	isNone(t, "nothing", []byte{})
	for _, l := range [][]api.Cell{nil, {put(5)}, {at(api.CFamily, "r", "f", "", 5)}, inOrder(), rising(130)} {
		b := built(t, l)
		for n := range b {
			isNone(t, "the beginning", b[:n])
			isNone(t, "the end", b[n+1:])
		}
		for _, more := range [][]byte{{0}, {1}, {255}, b, make([]byte, 100)} {
			isNone(t, "and more", slices.Concat(b, more))
			isNone(t, "more, and", slices.Concat(more, b))
		}
	}
}

// Bytes that are changed are another block's, or none's.
func TestChangedBytes(t *testing.T) {
	all := make([]byte, 256)
	for i := range all {
		all[i] = byte(i)
	}
	for _, x := range []struct {
		l    []api.Cell
		news []byte
	}{
		{nil, all},
		{[]api.Cell{put(5)}, all},
		{[]api.Cell{put(5), at(api.CCell, "r", "f", "q", 3)}, all},
		{inOrder()[:3], all},
		{inOrder()[6:10], all},
		{inOrder(), []byte{0, 1, 2, 9, 128, 252, 253, 254, 255}},
	} {
		b := built(t, x.l)
		for i := range b {
			for _, n := range x.news {
				oneBlock(t, slices.Concat(b[:i], []byte{n}, b[i+1:]))
				oneBlock(t, slices.Concat(b[:i], []byte{n}, b[i:]))
			}
			for _, n := range []byte{b[i] - 1, b[i] + 1} {
				oneBlock(t, slices.Concat(b[:i], []byte{n}, b[i+1:]))
			}
			oneBlock(t, slices.Concat(b[:i], b[i+1:]))
		}
	}
}

// oneBlock holds that cells are told of bytes only if they are these cells'.
func oneBlock(t *testing.T, b []byte) {
	t.Helper()
	l, ok := block.Parse(b)
	if !ok {
		isNone(t, "none", b)
		return
	}
	if again := isBlock(t, "again", l); !bytes.Equal(again, b) {
		t.Errorf("%v is read as %v, whose bytes are %v", b, l, again)
	}
}

// part is of a cell what a block tells of it.
type part struct {
	alike int
	left  []byte
	val   []byte
}

func bytesOf(parts ...part) []byte {
	b := codec.Num(len(parts))
	for _, p := range parts {
		b = slices.Concat(b, codec.Num(p.alike), codec.Num(len(p.left)), p.left)
		if p.val != nil {
			b = slices.Concat(b, codec.Num(len(p.val)), p.val)
		}
	}
	return b
}

func TestOtherBytes(t *testing.T) {
	k, later := key(put(5)), key(put(3))
	v, _ := val.Encode(whole(5))
	gone := key(at(api.CCell, "r", "f", "q", 3))
	first := part{0, k, v}
	n := len(k)
	if b := bytesOf(first, part{n - 2, gone[n-2:], nil}); !slices.Equal(b, built(t, []api.Cell{put(5), at(api.CCell, "r", "f", "q", 3)})) {
		t.Fatal(b)
	}
	for _, x := range []struct {
		what  string
		parts []part
	}{
		{"the first one's key begins with some", []part{{1, k, v}}},
		{"the first one's key begins with some, and is left", []part{{1, k[1:], v}}},
		{"no key", []part{{0, nil, nil}}},
		{"no key, but a value", []part{{0, nil, v}}},
		{"no value", []part{{0, k, nil}}},
		{"a value of no bytes", []part{{0, k, []byte{}}}},
		{"a wrong value", []part{{0, k, []byte{9}}}},
		{"a wrong whole value", []part{{0, k, v[:len(v)-1]}}},
		{"a value with more", []part{{0, k, append(slices.Clone(v), 0)}}},
		{"a text that isn't one", []part{{0, k, []byte{3, 0xff, 0, 1}}}},
		{"a value that has none", []part{{0, gone, v}}},
		{"a value that has none, of no bytes", []part{{0, gone, []byte{}}}},
		{"a key with a value", []part{{0, slices.Concat(k, v), nil}}},
		{"a key with its value, and none", []part{{0, slices.Concat(k, v), []byte{}}}},
		{"a key with a part of its value", []part{{0, slices.Concat(k, v[:1]), v[1:]}}},
		{"a value with a part of its key", []part{{0, k[:n-1], slices.Concat(k[n-1:], v)}}},
		{"not as many alike as can be", []part{first, {n - 3, gone[n-3:], nil}}},
		{"none alike", []part{first, {0, gone, nil}}},
		{"more alike than are", []part{first, {n - 1, gone[n-1:], nil}}},
		{"more alike than there are", []part{first, {n + 1, gone[n-2:], nil}}},
		{"many alike", []part{first, {math.MaxInt, gone[n-2:], nil}}},
		{"the same again", []part{first, {n, nil, v}}},
		{"the same again, and more", []part{first, {n, []byte{254}, v}}},
		{"an earlier one", []part{{0, later, v}, {n - 2, k[n-2:], v}}},
		{"a kind that there isn't", []part{{0, append(slices.Clone(k[:n-1]), 255), nil}}},
		{"a kind that there isn't, with a value", []part{{0, append(slices.Clone(k[:n-1]), 255), v}}},
		{"another kind", []part{{0, append(slices.Clone(k[:n-1]), 250), nil}}},
	} {
		isNone(t, x.what, bytesOf(x.parts...))
	}
}

// A value in whose bytes one that ends a put's key stands: of all the places
// where it might be cut from its key, only one is the key's end.
func TestWhereTheKeyEnds(t *testing.T) {
	c := with(put(5), api.Value{Kind: api.VBytes, S: "\xfe\x01\xfe\x02\xfe"})
	b, _ := codec.Encode(c)
	k := len(key(c))
	for n := range len(b) + 1 {
		whole := bytesOf(part{0, b[:n], b[n:]})
		if l, ok := block.Parse(whole); ok != (n == k) {
			t.Errorf("%d: %v, %v", n, l, ok)
		}
	}
	// So is a value whose last bytes are those of a value.
	inner, _ := val.Encode(whole(5))
	c = with(put(5), api.Value{Kind: api.VBytes, S: "\xfe" + string(inner)})
	isBlock(t, "a value within a value", []api.Cell{c})
}

func TestNumbers(t *testing.T) {
	b := built(t, []api.Cell{put(5)})
	isNone(t, "a count with a byte too many", slices.Concat([]byte{0x81, 0}, b[1:]))
	isNone(t, "none with a byte too many", []byte{0x80, 0})
	isNone(t, "nought alike with a byte too many", slices.Concat([]byte{1, 0x80, 0}, b[2:]))
	isNone(t, "a key's length with a byte too many", slices.Concat([]byte{1, 0, 18 | 0x80, 0}, b[3:]))
	v := 3 + len(key(put(5)))
	isNone(t, "a value's length with a byte too many", slices.Concat(b[:v], []byte{b[v] | 0x80, 0}, b[v+1:]))
	long := slices.Repeat([]byte{0xff}, 8)
	for _, n := range [][]byte{
		codec.Num(math.MaxInt), codec.Num(math.MaxInt - 1), codec.Num(1 << 62), codec.Num(1 << 32), codec.Num(1 << 16), codec.Num(most + 1), codec.Num(most), codec.Num(2),
		append(slices.Clone(long), 0xff), append(slices.Clone(long), 0x80, 0), slices.Repeat([]byte{0xff}, 100), slices.Repeat([]byte{0x80}, 100), {0xff}, {0x80},
	} {
		isNone(t, "only a count", n)
		isNone(t, "a great count", slices.Concat(n, b[1:]))
		isNone(t, "many alike", slices.Concat(b[:1], n, b[2:]))
		isNone(t, "a long key", slices.Concat(b[:2], n, b[3:]))
		isNone(t, "a long value", slices.Concat(b[:v], n, b[v+1:]))
	}
	isNone(t, "fewer than told", slices.Concat([]byte{2}, b[1:]))
	isNone(t, "more than told", slices.Concat([]byte{0}, b[1:]))
	// A length as it is told ends within the bytes, or none is read.
	isNone(t, "a key that ends behind the bytes", []byte{1, 0, 2, 'r'})
	isNone(t, "only how many are alike", []byte{1, 0})
}

// asked are cells that a block may be asked about: all fields, also wrong ones,
// and places just ahead of and behind those of some cells.
func asked(l []api.Cell) []api.Cell {
	out := slices.Concat(l, wrong(), inOrder())
	for _, c := range l {
		for _, change := range []func(*api.Cell){
			func(c *api.Cell) { c.Row += "\x00" },
			func(c *api.Cell) { c.Row = c.Row[:len(c.Row)-1] },
			func(c *api.Cell) { c.Fam += "\x00" },
			func(c *api.Cell) { c.Fam = "" },
			func(c *api.Cell) { c.Qual += "\x00" },
			func(c *api.Cell) { c.Qual = "" },
			func(c *api.Cell) { c.Qual = many("\xff", 99) },
			func(c *api.Cell) { c.Time++ },
			func(c *api.Cell) { c.Time-- },
			func(c *api.Cell) { c.Time = math.MinInt },
			func(c *api.Cell) { c.Time = math.MaxInt },
			func(c *api.Cell) { c.Kind++ },
			func(c *api.Cell) { c.Kind-- },
			func(c *api.Cell) { c.Kind = math.MinInt },
			func(c *api.Cell) { c.Kind = math.MaxInt },
			func(c *api.Cell) { c.Kind = api.CFamily },
			func(c *api.Cell) { c.Val = api.Value{} },
			func(c *api.Cell) { c.Val = text("\xff another value") },
		} {
			changed := c
			change(&changed)
			out = append(out, changed)
		}
	}
	return out
}

// found holds what Find tells against the cells of the block.
func found(t *testing.T, l []api.Cell) {
	t.Helper()
	b := built(t, l)
	for _, c := range asked(l) {
		want, is := api.Cell{}, false
		for _, x := range slices.Backward(l) {
			if codec.Order(x, c) >= 0 {
				want, is = x, true
			}
		}
		if got, ok := block.Find(b, c); got != want || ok != is {
			t.Errorf("Find of %v: %v, %v, not %v, %v", c, got, ok, want, is)
		}
	}
}

func TestFind(t *testing.T) {
	found(t, nil)
	found(t, inOrder())
	found(t, []api.Cell{put(9), put(7), put(5)})
	found(t, rising(130))
	l := []api.Cell{put(9), put(7), put(5)}
	b := built(t, l)
	for _, x := range []struct {
		what string
		c    api.Cell
		want int
	}{
		{"its own place", put(7), 1},
		{"another value", with(put(7), text("x")), 1},
		{"a wrong value", with(put(7), api.Value{Kind: 99}), 1},
		{"between", put(8), 1},
		{"ahead of all", put(10), 0},
		{"a time that none may have", put(math.MaxInt), 0},
		{"the last one", put(5), 2},
		{"behind all", put(4), -1},
		{"a time below 0", put(-1), -1},
		{"a greater kind", at(api.CCell, "r", "f", "q", 7), 1},
		{"a lower kind", at(0, "r", "f", "q", 7), 2},
		{"the greatest kind", at(math.MaxInt, "r", "f", "q", 7), 1},
		{"the lowest kind", at(math.MinInt, "r", "f", "q", 5), -1},
		{"a family's", at(api.CFamily, "r", "f", "", 0), 0},
		{"a family's with a qualifier", at(api.CFamily, "r", "f", "z", 0), 0},
		{"a longer qualifier", at(api.CPut, "r", "f", "q\x00", 9), -1},
		{"a family that none may have", at(api.CPut, "r", "F", "z", 0), 0},
		{"another one", at(api.CPut, "r", "f\x00", "", 0), -1},
		{"no row", at(api.CPut, "", "z", "z", 0), 0},
		{"a later row", at(api.CFamily, "r\x00", "", "", math.MaxInt), -1},
		{"a long row", at(api.CPut, many("r", 1000), "f", "q", 9), -1},
		{"noughts", api.Cell{}, 0},
	} {
		want := api.Cell{}
		if x.want >= 0 {
			want = l[x.want]
		}
		if c, ok := block.Find(b, x.c); c != want || ok != (x.want >= 0) {
			t.Errorf("%s: %v, %v", x.what, c, ok)
		}
	}
}

// What stands behind the cell that is looked for counts too.
func TestFindInOtherBytes(t *testing.T) {
	b := built(t, []api.Cell{put(9), put(7), put(5)})
	for _, bad := range [][]byte{nil, {}, {0x80}, b[:len(b)-1], append(slices.Clone(b), 0), slices.Concat([]byte{2}, b[1:]), slices.Concat([]byte{4}, b[1:])} {
		for _, c := range asked([]api.Cell{put(9), put(5)}) {
			if got, ok := block.Find(bad, c); ok || got != (api.Cell{}) {
				t.Errorf("Find of %v in %v: %v, %v", c, bad, got, ok)
			}
		}
	}
}

// lengths are how many cells the parts have.
func lengths(parts [][]api.Cell) []int {
	var l []int
	for _, p := range parts {
		l = append(l, len(p))
	}
	return l
}

func bytesIn(l []api.Cell) int {
	n := 0
	for _, c := range l {
		b, _ := codec.Encode(c)
		n += len(b)
	}
	return n
}

// cutPlainly holds parts against the chapter's words: no part could have taken
// the next cell, and each has what it may have.
func cutPlainly(t *testing.T, l []api.Cell, size int) {
	t.Helper()
	parts := block.Cut(l, size)
	same(t, "all", slices.Concat(parts...), l)
	rest := l
	for _, p := range parts {
		if len(p) == 0 || len(p) > most || len(p) > 1 && bytesIn(p) > size {
			t.Fatalf("size %d: a part of %d cells, %d bytes", size, len(p), bytesIn(p))
		}
		if more := rest[:min(len(rest), len(p)+1)]; len(more) > len(p) && len(p) < most && bytesIn(more) <= size {
			t.Fatalf("size %d: a part of %d cells, %d bytes with the next one", size, len(p), bytesIn(more))
		}
		rest = rest[len(p):]
	}
}

func TestCut(t *testing.T) {
	if n := bytesIn([]api.Cell{put(5)}); n != 27 {
		t.Fatal(n)
	}
	great := with(put(9), text(many("x", 32)))
	small := at(api.CFamily, "r", "f", "", 5)
	for _, x := range []struct {
		what string
		l    []api.Cell
		size int
		want []int
	}{
		{"none", nil, 100, nil},
		{"none, of no bytes", nil, 0, nil},
		{"one", rising(1), 27, []int{1}},
		{"one that is too great", rising(1), 26, []int{1}},
		{"just two", rising(4), 54, []int{2, 2}},
		{"not two", rising(4), 53, []int{1, 1, 1, 1}},
		{"one is left", rising(5), 54, []int{2, 2, 1}},
		{"three", rising(5), 81, []int{3, 2}},
		{"all", rising(5), 135, []int{5}},
		{"not all", rising(5), 134, []int{4, 1}},
		{"no bytes", rising(3), 0, []int{1, 1, 1}},
		{"fewer than none", rising(3), -1, []int{1, 1, 1}},
		{"the fewest", rising(3), math.MinInt, []int{1, 1, 1}},
		{"the most", rising(3), math.MaxInt, []int{3}},
		{"a great one ahead", []api.Cell{great, put(8), put(7)}, 54, []int{1, 2}},
		{"a great one behind", []api.Cell{put(8), put(7), great}, 54, []int{2, 1}},
		{"a great one between", []api.Cell{put(8), great, put(7)}, 53, []int{1, 1, 1}},
		{"a small one behind a great one", []api.Cell{great, small}, bytesIn([]api.Cell{great}), []int{1, 1}},
		{"a small one with a great one", []api.Cell{great, small}, bytesIn([]api.Cell{great, small}), []int{2}},
		{"the size of a table's blocks", rising(30), api.BlockSize, []int{9, 9, 9, 3}},
		{"just as many as may be", rising(most), math.MaxInt, []int{most}},
		{"one more", rising(most + 1), math.MaxInt, []int{most, 1}},
		{"twice as many", rising(2 * most), math.MaxInt, []int{most, most}},
		{"and more", rising(2*most + 5), 2 * most * 27, []int{most, most, 5}},
		{"just as many bytes", rising(2*most + 5), most * 27, []int{most, most, 5}},
		{"a byte less", rising(2*most + 5), most*27 - 1, []int{most - 1, most - 1, 7}},
		{"one cell again and again", slices.Repeat([]api.Cell{put(5)}, 5), 54, []int{2, 2, 1}},
		{"out of order", []api.Cell{put(1), put(9), put(5)}, 54, []int{2, 1}},
		// Those that aren't right have no bytes.
		{"wrong ones", make([]api.Cell, 5), 0, []int{5}},
		{"wrong ones, fewer than no bytes", make([]api.Cell, 3), -1, []int{1, 1, 1}},
		{"too many wrong ones", make([]api.Cell, 2*most+1), 0, []int{most, most, 1}},
		{"wrong ones behind", []api.Cell{put(5), {}, {}}, 27, []int{3}},
		{"wrong ones behind a great one", []api.Cell{put(5), {}, {}}, 26, []int{1, 2}},
		{"wrong ones ahead", []api.Cell{{}, {}, put(5), put(4)}, 27, []int{3, 1}},
		{"wrong ones ahead of a great one", []api.Cell{{}, {}, put(5), put(4)}, 26, []int{2, 1, 1}},
	} {
		parts := block.Cut(x.l, x.size)
		if got := lengths(parts); !slices.Equal(got, x.want) {
			t.Errorf("%s: %v, not %v", x.what, got, x.want)
		}
		same(t, x.what, slices.Concat(parts...), x.l)
		cutPlainly(t, x.l, x.size)
	}
	for size := -2; size < 700; size++ {
		cutPlainly(t, inOrder(), size)
		cutPlainly(t, slices.Concat(inOrder(), wrong(), inOrder()), size)
	}
}

// draw makes a cell of few places; some aren't right.
func draw(pick func(int) int, i int) api.Cell {
	if pick(200) == 0 {
		return wrong()[pick(len(wrong()))]
	}
	kinds := []int{api.CPut, api.CPut, api.CPut, api.CCell, api.CColumn, api.CFamily}
	c := api.Cell{Row: []string{"a", "a\x00", "b"}[pick(3)], Fam: []string{"f", "g"}[pick(2)], Kind: kinds[pick(len(kinds))], Time: pick(9)}
	if c.Kind != api.CFamily {
		c.Qual = []string{"", "q", "q\x00"}[pick(3)]
	}
	if c.Kind == api.CPut {
		c.Val = []api.Value{whole(i), text(many("x", i%33)), {Kind: api.VBytes, S: many("\xfe", i%33)}}[pick(3)]
	}
	return c
}

// asTold holds all calls for some cells against the chapter's words.
func asTold(t *testing.T, l []api.Cell) {
	t.Helper()
	want := len(l) <= most
	for i, c := range l {
		want = want && codec.Right(c) && (i == 0 || codec.Order(l[i-1], c) < 0)
	}
	b, ok := block.Build(l)
	if ok != want || !ok && len(b) != 0 {
		t.Fatalf("Build of %v: %v, %v", l, b, ok)
	}
	if want {
		isBlock(t, "drawn", l)
		found(t, l)
	} else {
		isNone(t, "drawn", plainly(l))
	}
	for _, size := range []int{0, 27, 100, api.BlockSize, 1 << 20} {
		cutPlainly(t, l, size)
	}
}

func TestAsTheChapterSays(t *testing.T) {
	r := rand.New(rand.NewSource(8))
	for range 80 {
		var l []api.Cell
		for i := range r.Intn(40) {
			l = append(l, draw(r.Intn, i))
		}
		asTold(t, l)
		slices.SortFunc(l, codec.Order)
		asTold(t, l)
		l = slices.CompactFunc(l, func(a, b api.Cell) bool { return codec.Order(a, b) == 0 })
		asTold(t, l)
		asTold(t, slices.DeleteFunc(l, func(c api.Cell) bool { return !codec.Right(c) }))
		if t.Failed() {
			return
		}
	}
}

func FuzzBytes(f *testing.F) {
	f.Add([]byte{})
	f.Add([]byte{0})
	for _, l := range [][]api.Cell{{put(5)}, {put(5), put(3)}, inOrder(), inOrder()[2:9]} {
		b, _ := block.Build(l)
		f.Add(b)
	}
	f.Fuzz(func(t *testing.T, b []byte) {
		before := slices.Clone(b)
		oneBlock(t, b)
		block.Find(b, put(5))
		if !bytes.Equal(b, before) {
			t.Error("the bytes were changed")
		}
	})
}

func FuzzCells(f *testing.F) {
	f.Add([]byte("\x01\x00\x00\x00\x05\x01\x00\x01\x00\x00\x00\x05\x01\x01"))
	f.Add([]byte("\x01\x02\x01\x01\x01\x05\x03\x01\x02\x01\x04\x02\x02"))
	f.Fuzz(func(t *testing.T, b []byte) {
		pick := func(n int) int {
			if len(b) == 0 {
				return 0
			}
			x := int(b[0]) % n
			b = b[1:]
			return x
		}
		var l []api.Cell
		for i := 0; len(b) > 0 && i < 40; i++ {
			l = append(l, draw(pick, i))
		}
		asTold(t, l)
		slices.SortFunc(l, codec.Order)
		asTold(t, l)
	})
}

func TestAnyArguments(t *testing.T) {
	numbers := []int{math.MinInt, math.MinInt + 1, -1, 0, 1, 2, 3, 4, 5, api.MaxClock, api.MaxClock + 1, math.MaxInt - 1, math.MaxInt}
	texts := []string{"", "f", "\x00", "\xff", many("x", 1<<12)}
	b := built(t, inOrder())
	var l []api.Cell
	for _, s := range texts {
		for _, n := range numbers {
			for _, kind := range numbers {
				c := api.Cell{Row: s, Fam: s, Qual: s, Time: n, Kind: kind, Val: api.Value{Kind: n, N: n, S: s}}
				l = append(l, c, with(c, api.Value{}), with(c, whole(n)))
			}
		}
	}
	for _, c := range l {
		got, ok := block.Build([]api.Cell{c})
		if ok != codec.Right(c) || ok != (len(got) > 0) {
			t.Errorf("Build of %v: %v, %v", c, got, ok)
		}
		i := slices.IndexFunc(inOrder(), func(x api.Cell) bool { return codec.Order(x, c) >= 0 })
		f, ok := block.Find(b, c)
		if ok != (i >= 0) || ok && f != inOrder()[i] || !ok && f != (api.Cell{}) {
			t.Errorf("Find of %v: %v, %v", c, f, ok)
		}
	}
	for _, size := range numbers {
		cutPlainly(t, l, size)
		if parts := block.Cut(nil, size); len(parts) != 0 {
			t.Error(size, parts)
		}
		if parts := block.Cut([]api.Cell{}, size); len(parts) != 0 {
			t.Error(size, parts)
		}
	}
}

// Every text of few bytes, of some that count for a block.
func TestShortBytes(t *testing.T) {
	signs := []byte{0, 1, 2, 9, 127, 128, 254, 255, 'a'}
	var try func(b []byte, n int)
	try = func(b []byte, n int) {
		if l, ok := block.Parse(b); ok && (len(b) != 1 || b[0] != 0 || len(l) != 0) || !ok && len(b) == 1 && b[0] == 0 {
			t.Fatal(b, l, ok)
		}
		if n > 0 {
			for _, x := range signs {
				try(append(b[:len(b):len(b)], x), n-1)
			}
		}
	}
	try(nil, 5)
}

func TestArgumentsStay(t *testing.T) {
	l := append(inOrder(), put(77), put(78))[:len(inOrder())]
	before := slices.Clone(l[:cap(l)])
	b := append(built(t, l), "spare"...)
	b = b[:len(b)-len("spare")]
	bytesBefore := slices.Clone(b[:cap(b)])
	block.Build(l)
	block.Cut(l, 100)
	block.Cut(l, math.MaxInt)
	block.Parse(b)
	for _, c := range asked(l) {
		block.Find(b, c)
	}
	for n := range b {
		block.Parse(b[:n])
		block.Find(b[:n], put(5))
	}
	same(t, "the cells, and those behind", l[:cap(l)], before)
	if !bytes.Equal(b[:cap(b)], bytesBefore) {
		t.Error("the bytes, or those behind, were changed")
	}
}

func TestAnswersAreNew(t *testing.T) {
	l := inOrder()
	b, want := built(t, l), built(t, l)
	first, _ := block.Parse(b)
	second, _ := block.Parse(b)
	one, _ := block.Find(b, put(5))
	kept := block.Cut(l, 100)
	parts, others := block.Cut(l, 100), block.Cut(l, 100)
	all := block.Cut(l, math.MaxInt)
	// What was answered is spoilt, spare room too, and what was handed in.
	spoil := func(l []api.Cell) {
		l = l[:cap(l)]
		for i := range l {
			l[i] = at(api.CPut, "spoilt", "f", "q", 1)
		}
	}
	spoil(first)
	spoil(all[0])
	for _, p := range parts {
		spoil(p)
	}
	parts = parts[:cap(parts)]
	for i := range parts {
		parts[i] = nil
	}
	same(t, "the cells", l, inOrder())
	same(t, "another answer", second, inOrder())
	if !bytes.Equal(b, want) {
		t.Error("the bytes were changed")
	}
	for i, p := range others {
		same(t, "another part", p, kept[i])
	}
	// No part stands in another one's spare room.
	for i := range others {
		again := block.Cut(l, 100)
		spoil(again[i])
		for k, p := range again {
			if k != i {
				same(t, "a part beside", p, kept[k])
			}
		}
	}
	spoil(l)
	b = b[:cap(b)]
	for i := range b {
		b[i] = 0x55
	}
	same(t, "an answer, when the bytes are others", second, inOrder())
	same(t, "parts, when the cells are others", slices.Concat(others...), inOrder())
	if want := inOrder()[21]; one != want {
		t.Errorf("%v, not %v", one, want)
	}
}

// What stands behind a number isn't taken into new memory with each one.
func TestMemory(t *testing.T) {
	long := slices.Concat(plainly(rising(most)), make([]byte, 1<<22))
	var before, after runtime.MemStats
	runtime.ReadMemStats(&before)
	isNone(t, "long", long)
	runtime.ReadMemStats(&after)
	if n := after.TotalAlloc - before.TotalAlloc; n > 1<<24 {
		t.Errorf("%d bytes of memory", n)
	}
}

// Bytes aren't gone over as often as there are cells, or as their numbers tell.
func TestManyBytes(t *testing.T) {
	k := key(put(5))
	long := make([]byte, 1<<22)
	for _, b := range [][]byte{
		long,
		slices.Concat([]byte{1, 0}, codec.Num(len(long)), long),
		slices.Concat([]byte{1, 0}, codec.Num(len(k)), k, codec.Num(len(long)), long),
		slices.Concat(codec.Num(most), []byte{0}, codec.Num(math.MaxInt), long),
		slices.Concat(plainly(rising(most)), long),
	} {
		isNone(t, "long", b)
	}
	var b []byte
	for range 200 {
		b, _ = block.Build(rising(most))
		if l, ok := block.Parse(b); !ok || len(l) != most {
			t.Fatal(ok, len(l))
		}
		isNone(t, "with much behind", slices.Concat(b, long[:1<<16]))
	}
	l := rising(1 << 16)
	for _, size := range []int{math.MinInt, 0, 27, api.BlockSize, 27 * 999, math.MaxInt} {
		if parts := block.Cut(l, size); bytesIn(slices.Concat(parts...)) != bytesIn(l) {
			t.Error(size)
		}
	}
}
