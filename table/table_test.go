package table_test

import (
	"bytes"
	"encoding/binary"
	"math"
	"math/rand"
	"runtime"
	"slices"
	"strings"
	"testing"

	"joist/api"
	"joist/block"
	"joist/codec"
	"joist/sum"
	"joist/table"
)

func whole(n int) api.Value       { return api.Value{Kind: api.VInt, N: n} }
func text(s string) api.Value     { return api.Value{Kind: api.VText, S: s} }
func many(s string, n int) string { return strings.Repeat(s, n) }

// at is a cell of a column; a put's value is its time.
func at(kind int, row, fam, qual string, time int) api.Cell {
	c := api.Cell{Row: row, Fam: fam, Qual: qual, Time: time, Kind: kind}
	if kind == api.CPut {
		c.Val = whole(time)
	}
	return c
}

func put(row string, time int) api.Cell { return at(api.CPut, row, "f", "q", time) }

func with(c api.Cell, v api.Value) api.Cell {
	c.Val = v
	return c
}

// great is the put with the most bytes that a row's may have.
func great(row string, time int) api.Cell {
	c := at(api.CPut, row+many("\x00", api.MaxRow-len(row)), many("f", api.MaxName), many("\x00", api.MaxQual), time)
	return with(c, api.Value{Kind: api.VBytes, S: many("\x00", api.MaxData)})
}

// wrong are cells that aren't right.
func wrong() []api.Cell {
	return []api.Cell{
		{},
		put("", 5), put(many("r", api.MaxRow+1), 5),
		put("r", -1), put("r", math.MinInt), put("r", api.MaxClock+1), put("r", math.MaxInt),
		at(api.CPut, "r", "", "q", 5), at(api.CPut, "r", "F", "q", 5), at(api.CPut, "r", "f\x00", "q", 5),
		at(api.CPut, "r", many("f", api.MaxName+1), "q", 5), at(api.CPut, "r", "f", many("q", api.MaxQual+1), 5),
		with(put("r", 5), api.Value{}), with(put("r", 5), text("\xff")), with(put("r", 5), text(many("x", api.MaxData+1))),
		with(at(api.CCell, "r", "f", "q", 5), whole(5)),
		at(api.CFamily, "r", "f", "q", 5),
		at(0, "r", "f", "q", 5), at(5, "r", "f", "q", 5), at(-1, "r", "f", "q", 5),
		at(math.MinInt, "r", "f", "q", 5), at(math.MaxInt, "r", "f", "q", 5),
	}
}

// inOrder are right cells, in order, no two of one place; some blocks' worth.
func inOrder() []api.Cell {
	l := []api.Cell{put("\x00", 1), put("\x00\x00", 1), at(api.CFamily, "a", "f", "", 9), at(api.CColumn, "a", "f", "", 4)}
	for i := range 40 {
		l = append(l, put("a", 100-i))
	}
	l = append(l,
		with(at(api.CPut, "a", "f0", "q", 9), text("a\x00b")),
		at(api.CFamily, "a\x00", "f", "", 0),
		put("a\x00", api.MaxClock),
		put("aa", 1),
		great("b", 7), great("b", 6),
		at(api.CCell, "c", "f", "q", 8),
		with(put("c", 8), api.Value{Kind: api.VFloat}),
	)
	for i := range 30 {
		l = append(l, put("d"+string([]byte{byte('a' + i)}), i))
	}
	return append(l, put("m", 3), put("m", 2), at(api.CFamily, "\xff", "a", "", api.MaxClock), put(many("\xff", api.MaxRow), 0))
}

func key(c api.Cell) []byte {
	b, _ := codec.Key(c)
	return b
}

func framed(b []byte) []byte {
	f, _ := sum.Frame(b)
	return f
}

// blockOf is the frame of a block of some cells.
func blockOf(l ...api.Cell) []byte {
	b, _ := block.Build(l)
	return framed(b)
}

// raw are bytes that end as a table does: with an index and its place.
func raw(ahead []byte, index ...[]byte) []byte {
	return binary.BigEndian.AppendUint64(slices.Concat(ahead, framed(codec.List(index))), uint64(len(ahead)))
}

// laid is a table whose blocks have these cells, told part by part as the chapter
// does; it asks for no order, and for no size.
func laid(parts ...[]api.Cell) []byte {
	var b []byte
	var index [][]byte
	for _, p := range parts {
		index = append(index, key(p[0]), codec.Num(len(b)))
		b = append(b, blockOf(p...)...)
	}
	return raw(b, index...)
}

func plainly(l []api.Cell) []byte { return laid(block.Cut(l, api.BlockSize)...) }

func same(t *testing.T, what string, got, want []api.Cell) {
	t.Helper()
	if !slices.Equal(got, want) {
		t.Errorf("%s: %v, not %v", what, got, want)
	}
}

func opened(t *testing.T, b []byte) *table.Table {
	t.Helper()
	tab, e := table.Open(b)
	if e != api.OK || tab == nil {
		t.Fatalf("Open of %q: %v, %v", b, tab, e)
	}
	return tab
}

// isNone holds that bytes are no table's.
func isNone(t *testing.T, what string, b []byte) {
	t.Helper()
	if tab, e := table.Open(b); e != api.ErrCorrupt || tab != nil {
		t.Errorf("%s: Open of %q: %v, %v", what, b, tab, e)
	}
}

// looks holds what a call tells, and how many blocks it looks at.
func looks(t *testing.T, what string, tab *table.Table, call func() ([]api.Cell, api.Errno), want []api.Cell, wantErr api.Errno, blocks int) {
	t.Helper()
	before := tab.Looked()
	got, e := call()
	same(t, what, got, want)
	if e != wantErr {
		t.Errorf("%s: %v, not %v", what, e, wantErr)
	}
	if n := tab.Looked() - before; n != blocks {
		t.Errorf("%s: looked at %d blocks, not %d", what, n, blocks)
	}
}

func looksFrom(t *testing.T, what string, tab *table.Table, c api.Cell, most int, want []api.Cell, blocks int) {
	t.Helper()
	looks(t, what, tab, func() ([]api.Cell, api.Errno) { return tab.From(c, most) }, want, api.OK, blocks)
}

func looksRow(t *testing.T, what string, tab *table.Table, row string, want []api.Cell, blocks int) {
	t.Helper()
	looks(t, what, tab, func() ([]api.Cell, api.Errno) { return tab.Row(row) }, want, api.OK, blocks)
}

func TestExample(t *testing.T) {
	b, ok := table.Build(nil)
	if want := []byte{1, 0, 0, 1, 0, 1, 0, 0, 0, 0, 0, 0, 0, 0}; !ok || !bytes.Equal(b, want) {
		t.Errorf("%v, %v", b, ok)
	}
	if c, ok := table.Build([]api.Cell{}); !ok || !bytes.Equal(b, c) {
		t.Errorf("%v, %v", c, ok)
	}
	tab := opened(t, b)
	if tab.Blocks() != 0 || len(tab.Firsts()) != 0 {
		t.Error(tab.Blocks(), tab.Firsts())
	}
	looks(t, "all", tab, tab.Cells, nil, api.OK, 0)
	looksRow(t, "a row", tab, "a", nil, 0)
	looksFrom(t, "from", tab, api.Cell{}, 9, nil, 0)
}

func TestBytes(t *testing.T) {
	gone := at(api.CFamily, "b", "f", "", 0)
	k := "b\x00\x01f\x00\x01\x00\x00\x7f\xff\xff\xff\xff\xff\xff\xff\xfb"
	if b, ok := table.Build([]api.Cell{gone}); !ok || string(b) != string(framed([]byte("\x01\x00\x11"+k)))+string(framed([]byte("\x02\x11"+k+"\x01\x00")))+"\x00\x00\x00\x00\x00\x00\x00\x19" {
		t.Errorf("%q, %v", b, ok)
	}
	// Two blocks: of puts of the most bytes no two have 256 together.
	l := []api.Cell{great("a", 2), great("a", 1)}
	first, second := blockOf(l[0]), blockOf(l[1])
	index := codec.List([][]byte{key(l[0]), {0}, key(l[1]), codec.Num(len(first))})
	place := len(first) + len(second)
	if b, ok := table.Build(l); !ok || !bytes.Equal(b, slices.Concat(first, second, framed(index), []byte{0, 0, 0, 0, 0, 0, byte(place >> 8), byte(place)})) {
		t.Errorf("%q, %v", b, ok)
	}
}

// isTable holds that cells are a table, whose bytes tell them again.
func isTable(t *testing.T, what string, l []api.Cell) {
	t.Helper()
	b, ok := table.Build(l)
	if !ok || !bytes.Equal(b, plainly(l)) {
		t.Errorf("%s: %q, %v", what, b, ok)
		return
	}
	tab := opened(t, b)
	var firsts [][]byte
	for _, p := range block.Cut(l, api.BlockSize) {
		firsts = append(firsts, key(p[0]))
	}
	if tab.Blocks() != len(firsts) || !slices.EqualFunc(tab.Firsts(), firsts, bytes.Equal) {
		t.Errorf("%s: %d blocks, %q", what, tab.Blocks(), tab.Firsts())
	}
	looks(t, what, tab, tab.Cells, l, api.OK, len(firsts))
}

func TestTables(t *testing.T) {
	l := inOrder()
	if n := len(block.Cut(l, api.BlockSize)); n < 8 {
		t.Fatal(n)
	}
	for i := range l {
		isTable(t, "one", l[i:i+1])
		isTable(t, "the first ones", l[:i])
		isTable(t, "the last ones", l[i:])
		isTable(t, "without one", slices.Delete(slices.Clone(l), i, i+1))
	}
	var rows []api.Cell
	for i := range 5000 {
		rows = append(rows, at(api.CFamily, string([]byte{byte('a' + i/2500), byte(i / 50), byte(i % 50)}), "f", "", i))
	}
	isTable(t, "many", rows)
}

func TestBuildOfOthers(t *testing.T) {
	none := func(what string, l []api.Cell) {
		t.Helper()
		if b, ok := table.Build(l); ok || len(b) != 0 {
			t.Errorf("%s: Build of %v: %q, %v", what, l, b, ok)
		}
	}
	l := inOrder()
	for _, w := range wrong() {
		none("wrong", []api.Cell{w})
		for _, i := range []int{0, 1, 20, len(l) - 1} {
			m := slices.Clone(l)
			m[i] = w
			none("one wrong", m)
		}
	}
	// Of all pairs some stand in one block, some in two, that may be neighbours.
	for i := range l {
		none("twice", slices.Insert(slices.Clone(l), i, l[i]))
		none("again", append(slices.Clone(l), l[i]))
		none("one place, another value", slices.Insert(slices.Clone(l), i, with(l[i], text("x"))))
		for k := range i {
			m := slices.Clone(l)
			m[i], m[k] = m[k], m[i]
			none("out of order", m)
		}
	}
	// No two of these stand in one block.
	none("two blocks of one place", []api.Cell{great("a", 1), great("a", 1)})
	none("two blocks out of order", []api.Cell{great("a", 1), great("a", 2)})
}

// An index that no frame has room for has no bytes.
func TestTooManyBlocks(t *testing.T) {
	var l []api.Cell
	fits := 0
	size := 0
	for i := range 1000 {
		l = append(l, great("a", 1000-i))
		// Its key, its place, how many bytes both have, and how many parts there are.
		size += 1 + len(key(l[i])) + 1 + len(codec.Num(i*len(blockOf(l[i]))))
		if len(codec.Num(2*(i+1)))+size <= sum.MaxFrame {
			fits = i + 1
		}
	}
	if fits < 100 || fits > 900 {
		t.Fatal(fits)
	}
	for n := fits - 2; n <= fits; n++ {
		isTable(t, "as many as may be", l[:n])
	}
	for _, n := range []int{fits + 1, fits + 2, len(l)} {
		if b, ok := table.Build(l[:n]); ok || len(b) != 0 {
			t.Errorf("%d blocks: %d bytes, %v", n, len(b), ok)
		}
	}
}

func TestAllOfTheBytes(t *testing.T) {
	isNone(t, "nothing", nil)
	isNone(t, "nothing", []byte{})
	for n := range 14 {
		isNone(t, "noughts", make([]byte, n))
		isNone(t, "the greatest place", bytes.Repeat([]byte{255}, n))
	}
	for _, l := range [][]api.Cell{nil, {put("a", 5)}, {great("a", 2), great("a", 1)}, inOrder()} {
		b := plainly(l)
		for n := range b {
			isNone(t, "the beginning", b[:n])
		}
		for n := 1; n < len(b); n++ {
			isNone(t, "the end", b[n:])
		}
		for _, more := range [][]byte{{0}, {1}, {255}, make([]byte, 8), bytes.Repeat([]byte{255}, 8)} {
			isNone(t, "and more", slices.Concat(b, more))
			isNone(t, "more, and", slices.Concat(more, b))
		}
		place := binary.BigEndian.Uint64(b[len(b)-8:])
		for _, p := range []uint64{0, 1, place - 1, place + 1, place + 1<<32, place | 1<<63, uint64(len(b) - 8), uint64(len(b)), uint64(len(b) - 7), math.MaxInt, 1 << 63, math.MaxUint64, math.MaxUint64 - 7} {
			if p != place {
				isNone(t, "another place", binary.BigEndian.AppendUint64(slices.Clone(b[:len(b)-8]), p))
			}
		}
	}
}

// Of a table's end every bit counts; of its blocks none does, when it is opened.
func TestChangedBits(t *testing.T) {
	b := plainly(inOrder())
	place := int(binary.BigEndian.Uint64(b[len(b)-8:]))
	for i := range b {
		for bit := range 8 {
			other := slices.Clone(b)
			other[i] ^= 1 << bit
			if i >= place {
				isNone(t, "changed", other)
				continue
			}
			tab := opened(t, other)
			if tab.Looked() != 0 || tab.Blocks() != len(block.Cut(inOrder(), api.BlockSize)) {
				t.Fatal(i, tab.Looked(), tab.Blocks())
			}
			if l, e := tab.Cells(); e != api.ErrCorrupt || len(l) != 0 {
				t.Fatalf("%d: %v, %v", i, l, e)
			}
		}
	}
}

func TestIndexFrames(t *testing.T) {
	l := []api.Cell{put("a", 2), put("b", 1)}
	ahead := slices.Concat(blockOf(l[0]), blockOf(l[1]))
	index := codec.List([][]byte{key(l[0]), {0}, key(l[1]), codec.Num(len(blockOf(l[0])))})
	ends := func(part []byte) []byte {
		return binary.BigEndian.AppendUint64(slices.Concat(ahead, part), uint64(len(ahead)))
	}
	opened(t, ends(framed(index)))
	isNone(t, "no index", ends(nil))
	isNone(t, "an index without a frame", ends(index))
	isNone(t, "a byte behind the index", ends(append(framed(index), 0)))
	isNone(t, "a frame behind the index", ends(slices.Concat(framed(index), framed(nil))))
	isNone(t, "two indexes", ends(slices.Concat(framed(index), framed(index))))
	isNone(t, "a byte ahead of the index", ends(append([]byte{0}, framed(index)...)))
	isNone(t, "a frame of nothing", ends(framed(nil)))
	isNone(t, "a torn frame", ends(framed(index)[:len(framed(index))-1]))
	isNone(t, "a list with a byte behind", ends(framed(append(slices.Clone(index), 0))))
	isNone(t, "a list without its end", ends(framed(index[:len(index)-1])))
	isNone(t, "a block for an index", ends(blockOf(l...)))
}

func TestIndexes(t *testing.T) {
	a, b, c := put("a", 1), put("b", 1), at(api.CFamily, "c", "f", "", 1)
	ahead := slices.Concat(blockOf(a), blockOf(b), blockOf(c))
	second := len(blockOf(a))
	third := second + len(blockOf(b))
	nought, two, three := []byte{0}, codec.Num(second), codec.Num(third)
	good := [][]byte{key(a), nought, key(b), two, key(c), three}
	tab := opened(t, raw(ahead, good...))
	looks(t, "good", tab, tab.Cells, []api.Cell{a, b, c}, api.OK, 3)
	// Of fewer blocks than there are the others aren't to be seen.
	tab = opened(t, raw(ahead, good[:4]...))
	looks(t, "fewer", tab, tab.Cells, []api.Cell{a, b}, api.OK, 2)
	tab = opened(t, raw(ahead))
	looks(t, "none", tab, tab.Cells, nil, api.OK, 0)

	last := codec.Num(len(ahead) - 1)
	opened(t, raw(ahead, key(a), nought, key(b), last))
	bad := func(what string, index ...[]byte) {
		t.Helper()
		isNone(t, what, raw(ahead, index...))
	}
	for n := range len(good) {
		if n%2 == 1 {
			bad("an odd number of parts", good[:n]...)
			bad("an odd number of parts", good[n:]...)
		}
	}
	bad("keys that fall", key(b), nought, key(a), two)
	bad("keys that don't rise", key(a), nought, key(a), two)
	bad("keys that fall at the end", key(a), nought, key(c), two, key(b), three)
	bad("one key twice at the end", key(a), nought, key(b), two, key(b), three)
	bad("places that fall", key(a), nought, key(b), three, key(c), two)
	bad("places that don't rise", key(a), nought, key(b), nought)
	bad("one place twice at the end", key(a), nought, key(b), two, key(c), two)
	bad("a first place that isn't 0", key(a), []byte{1}, key(b), two)
	bad("only a later place", key(b), two)
	bad("the index's place", key(a), nought, key(b), codec.Num(len(ahead)))
	bad("a place behind the index's", key(a), nought, key(b), codec.Num(len(ahead)+1))
	bad("a great place", key(a), nought, key(b), codec.Num(math.MaxInt))
	bad("numbers and keys", nought, key(a), two, key(b))
	isNone(t, "a block where there are none", raw(nil, key(a), nought))
	for _, n := range [][]byte{nil, {0x80}, {0x80, 0}, {0, 0}, {0, 1}, append(codec.Num(second), 0), {two[0] | 0x80, 0}, bytes.Repeat([]byte{255}, 9), bytes.Repeat([]byte{255}, 100), key(b)} {
		bad("no number at the first place", key(a), n)
		bad("no number", key(a), nought, key(b), n)
		bad("no number ahead of others", key(a), nought, key(b), n, key(c), three)
	}
}

// A key of an index is a right cell's, all of it, and no more.
func TestIndexKeys(t *testing.T) {
	for _, c := range inOrder() {
		opened(t, raw(blockOf(c), key(c), []byte{0}))
	}
	p := put("b", 5)
	var bad [][]byte
	for _, c := range []api.Cell{p, with(p, text("\xfe")), with(p, api.Value{Kind: api.VBool, N: 1}), great("b", 1), with(p, api.Value{Kind: api.VBytes, S: "\xfe"}), at(api.CFamily, "b", "f", "", 5)} {
		k := key(c)
		b, _ := codec.Encode(c)
		for n := range k {
			bad = append(bad, k[:n])
		}
		for n := len(k) + 1; n <= len(b); n++ {
			bad = append(bad, b[:n])
		}
		// Bytes behind a key, that with more behind them would be its value's.
		for _, more := range []string{"\x00", "\xfe", "\x01\xfe", "\x01\x00\x00\x00\x00\x00\x00\xfe", "\x01\x00\x00\x00\x00\x00\xfe", "\x02\xfe", "\x02", "\x03a", "\x04", "\x04\x00", "\xfc", "\x00\x01\xfe"} {
			bad = append(bad, append(slices.Clone(k), more...))
		}
	}
	k := key(p)
	head, times, kind := k[:len(k)-9], k[len(k)-9:len(k)-1], k[len(k)-1:]
	bad = append(bad,
		[]byte("key"),
		slices.Concat([]byte{0, 1}, k[3:]),
		slices.Concat([]byte(many("r", api.MaxRow+1)), k[1:]),
		slices.Concat([]byte("b\x00\x02"), k[3:]),
		bytes.Replace(k, []byte("f"), []byte("F"), 1),
		bytes.Replace(k, []byte("f"), nil, 1),
		slices.Concat(head, []byte{0x80, 0, 0, 0, 0, 0, 0, 0}, kind),
		slices.Concat(head, make([]byte, 8), kind),
		slices.Concat(head, times, []byte{255}), slices.Concat(head, times, []byte{250}), slices.Concat(head, times, []byte{0}),
		slices.Concat(head, times, []byte{251}), // a family's cell with a qualifier
	)
	f := key(at(api.CFamily, "b", "f", "", 5))
	for _, x := range []byte{252, 253, 254, 255, 250} { // a column's cells without one
		bad = append(bad, append(slices.Clone(f[:len(f)-1]), x))
	}
	a, z := put("a", 1), put("z", 1)
	ahead := slices.Concat(blockOf(a), blockOf(p), blockOf(z))
	two, three := codec.Num(len(blockOf(a))), codec.Num(len(blockOf(a))+len(blockOf(p)))
	opened(t, raw(ahead, key(a), []byte{0}, k, two, key(z), three))
	for _, k := range bad {
		isNone(t, "one key", raw(ahead, k, []byte{0}))
		isNone(t, "a key between", raw(ahead, key(a), []byte{0}, k, two, key(z), three))
		isNone(t, "the last key", raw(ahead, key(a), []byte{0}, k, two))
	}
}

// some are tables: as Build makes them, and with blocks of other sizes.
func some() [][][]api.Cell {
	l := inOrder()
	ones := slices.Collect(slices.Chunk(l, 1))
	return [][][]api.Cell{
		block.Cut(l, api.BlockSize),
		block.Cut(l, 100),
		ones,
		slices.Collect(slices.Chunk(l, 2)),
		slices.Collect(slices.Chunk(l, 7)),
		{l},
		{l[:1], l[1:]},
		{l[:len(l)-1], l[len(l)-1:]},
		{{put("b", 9), put("b", 8)}, {put("b", 7), put("b", 6)}, {put("b", 5), put("c", 4)}, {put("c", 3)}, {put("e", 2)}},
		{{put("b", 5)}},
		nil,
	}
}

// askedRows are rows of cells, what stands near them, and some that none has.
func askedRows() []string {
	rows := []string{"", "\x00\x00\x00", "\x01", "ab", "a\x00\x00", "b\x00", "l", "n", "z", "\xff\xff", many("\xff", api.MaxRow+1), many("a", 1000), "d", "da\x00", "d\x00"}
	for _, c := range inOrder() {
		rows = append(rows, c.Row)
	}
	return rows
}

func TestRows(t *testing.T) {
	for i, parts := range some() {
		tab := opened(t, laid(parts...))
		for _, row := range askedRows() {
			first := codec.First(row)
			blocks := 0
			for k, p := range parts {
				isLast := bytes.Compare(key(p[0]), first) <= 0 && (k+1 == len(parts) || bytes.Compare(key(parts[k+1][0]), first) > 0)
				if isLast || bytes.HasPrefix(key(p[0]), first) {
					blocks++
				}
			}
			want := slices.DeleteFunc(slices.Concat(parts...), func(c api.Cell) bool { return c.Row != row })
			looksRow(t, row, tab, row, want, blocks)
		}
		if t.Failed() {
			t.Fatal(i)
		}
	}
}

func TestRow(t *testing.T) {
	l := []api.Cell{put("b", 9), put("b", 8), put("b", 7), put("b", 6), put("b", 5), put("c", 4), put("c", 3), put("e", 2)}
	tab := opened(t, laid(l[:2], l[2:4], l[4:6], l[6:7], l[7:]))
	for _, x := range []struct {
		row      string
		from, to int
		looked   int
	}{
		{"", 0, 0, 0},
		{"a", 0, 0, 0},
		{"b", 0, 5, 3}, // none stands ahead of its blocks
		{"b\x00", 0, 0, 1},
		{"bb", 0, 0, 1},
		{"c", 5, 7, 2}, // it begins within a block
		{"d", 0, 0, 1},
		{"e", 7, 8, 2},
		{"f", 0, 0, 1},
		{"\xff", 0, 0, 1},
		{many("c", api.MaxRow+1), 0, 0, 1}, // a row that none may have
	} {
		looksRow(t, x.row, tab, x.row, l[x.from:x.to], x.looked)
	}
}

// asked are places to be asked from: also wrong cells, and places just ahead of
// and behind those of some cells.
func asked(l []api.Cell) []api.Cell {
	out := slices.Concat(l, wrong())
	for _, c := range l {
		for _, change := range []func(*api.Cell){
			func(c *api.Cell) { c.Row += "\x00" },
			func(c *api.Cell) { c.Row = c.Row[:len(c.Row)-1] },
			func(c *api.Cell) { c.Fam += "\x00" },
			func(c *api.Cell) { c.Fam = "" },
			func(c *api.Cell) { c.Qual += "\x00" },
			func(c *api.Cell) { c.Qual = many("\xff", 99) },
			func(c *api.Cell) { c.Time++ },
			func(c *api.Cell) { c.Time-- },
			func(c *api.Cell) { c.Time = math.MinInt },
			func(c *api.Cell) { c.Time = math.MaxInt },
			func(c *api.Cell) { c.Kind++ },
			func(c *api.Cell) { c.Kind-- },
			func(c *api.Cell) { c.Kind = math.MaxInt },
			func(c *api.Cell) { c.Kind = api.CFamily },
			func(c *api.Cell) { c.Val = text("\xff another value") },
		} {
			changed := c
			change(&changed)
			out = append(out, changed)
		}
	}
	return out
}

// fromPlainly is what From is to tell, and at how many blocks it is to look.
func fromPlainly(parts [][]api.Cell, c api.Cell, most int) ([]api.Cell, int) {
	first := 0
	for i, p := range parts {
		if codec.Order(p[0], c) <= 0 {
			first = i
		}
	}
	var l []api.Cell
	blocks := 0
	for _, p := range parts[first:] {
		if len(l) >= most {
			break
		}
		blocks++
		for _, x := range p {
			if codec.Order(x, c) >= 0 {
				l = append(l, x)
			}
		}
	}
	return l[:max(0, min(len(l), most))], blocks
}

func TestFroms(t *testing.T) {
	places := asked(inOrder())
	for i, parts := range some() {
		tab := opened(t, laid(parts...))
		for _, c := range places {
			for _, most := range []int{math.MinInt, -1, 0, 1, 2, 7, 40, math.MaxInt} {
				want, blocks := fromPlainly(parts, c, most)
				looksFrom(t, "from", tab, c, most, want, blocks)
			}
		}
		if t.Failed() {
			t.Fatal(i)
		}
	}
}

func TestFrom(t *testing.T) {
	l := []api.Cell{put("b", 9), put("b", 8), put("b", 7), put("b", 6), put("b", 5), put("c", 4), put("c", 3), put("e", 2)}
	tab := opened(t, laid(l[:2], l[2:4], l[4:6], l[6:7], l[7:]))
	for _, x := range []struct {
		what     string
		c        api.Cell
		most     int
		from, to int
		looked   int
	}{
		{"none", put("b", 9), 0, 0, 0, 0},
		{"below none", put("b", 9), -1, 0, 0, 0},
		{"one", put("b", 9), 1, 0, 1, 1},
		{"all of a block", put("b", 9), 2, 0, 2, 1},
		{"one of the next", put("b", 9), 3, 0, 3, 2},
		{"just all", put("b", 9), 8, 0, 8, 5},
		{"more than there are", put("b", 9), 9, 0, 8, 5},
		{"ahead of all", api.Cell{}, 2, 0, 2, 1},
		{"the second of a block", put("b", 8), 1, 1, 2, 1},
		{"the first of a block", put("b", 7), 1, 2, 3, 1},
		{"the first of a block, another value", with(put("b", 7), text("x")), 1, 2, 3, 1},
		{"the first of a block, a greater kind", at(api.CCell, "b", "f", "q", 7), 1, 2, 3, 2},
		{"the first of a block, a lower kind", at(0, "b", "f", "q", 7), 1, 3, 4, 1},
		{"a family's, with a qualifier", at(api.CFamily, "b", "f", "z", 0), 1, 0, 1, 1},
		{"behind a block's cells", put("b\x00", 9), 1, 5, 6, 1},
		{"behind all of a block", put("d", 9), 1, 7, 8, 2},
		{"the last one", put("e", 2), 9, 7, 8, 1},
		{"behind all", put("e", 1), 9, 0, 0, 1},
		{"a time that none may have", put("e", math.MaxInt), 9, 7, 8, 2},
		{"a row that none may have", put(many("z", 99), 0), 9, 0, 0, 1},
	} {
		looksFrom(t, x.what, tab, x.c, x.most, l[x.from:x.to], x.looked)
	}
}

// Each block that is looked at counts, each time.
func TestLooked(t *testing.T) {
	parts := [][]api.Cell{{put("a", 1)}, {put("b", 1)}, {put("c", 1)}}
	b := laid(parts...)
	tab := opened(t, b)
	want := 0
	for range 3 {
		tab.Cells()
		want += 3
		tab.Row("b")
		want += 2
		tab.From(put("b", 1), 1)
		want++
		tab.Blocks()
		tab.Firsts()
		if tab.Looked() != want {
			t.Errorf("%d, not %d", tab.Looked(), want)
		}
	}
	if n := opened(t, b).Looked(); n != 0 {
		t.Error(n)
	}
}

// spoilt are frames, or none, that may stand where a block of a cell is to be.
func spoilt(c api.Cell) map[string][]byte {
	good := blockOf(c)
	later := c
	later.Time++
	b, _ := block.Build([]api.Cell{c})
	changed := slices.Clone(good)
	changed[len(changed)-1]++
	return map[string][]byte{
		"nothing":                  nil,
		"torn":                     good[:len(good)-1],
		"a number alone":           good[:1],
		"a long number":            bytes.Repeat([]byte{255}, 20),
		"a great number":           codec.Num(sum.MaxFrame + 1),
		"a number with a nought":   slices.Concat([]byte{good[0] | 0x80, 0}, good[1:]),
		"a bad sum":                changed,
		"no frame":                 b,
		"noughts":                  make([]byte, 50),
		"a frame of nothing":       framed(nil),
		"a frame of another thing": framed([]byte("block")),
		"a block without cells":    framed([]byte{0}),
		"a block with more":        framed(append(slices.Clone(b), 0)),
		"a block with less":        framed(b[:len(b)-1]),
		"a block of another first": blockOf(later),
		"an earlier cell ahead":    blockOf(later, c),
		"an index":                 framed(codec.List([][]byte{key(c), {0}})),
	}
}

func TestSpoiltBlocks(t *testing.T) {
	cells := []api.Cell{put("b", 1), put("d", 1), put("f", 1)}
	for i, c := range cells {
		for what, bad := range spoilt(c) {
			var b []byte
			var index [][]byte
			for k, x := range cells {
				index = append(index, key(x), codec.Num(len(b)))
				if k == i {
					// Behind it something stands, so that the next place is another one.
					b = slices.Concat(b, bad, make([]byte, 9))
				} else {
					b = append(b, blockOf(x)...)
				}
			}
			tab := opened(t, raw(b, index...))
			looks(t, what, tab, tab.Cells, nil, api.ErrCorrupt, i+1)
			for k, x := range cells {
				row := func() ([]api.Cell, api.Errno) { return tab.Row(x.Row) }
				from := func() ([]api.Cell, api.Errno) { return tab.From(x, 1) }
				// The block ahead of a row's first one is looked at first.
				switch {
				case k == i && k == 0:
					looks(t, what, tab, row, nil, api.ErrCorrupt, 1)
				case k == i:
					looks(t, what, tab, row, nil, api.ErrCorrupt, 2)
				case k == i+1:
					looks(t, what, tab, row, nil, api.ErrCorrupt, 1)
				default:
					looks(t, what, tab, row, cells[k:k+1], api.OK, min(k+1, 2))
				}
				if k == i {
					looks(t, what, tab, from, nil, api.ErrCorrupt, 1)
				} else {
					looks(t, what, tab, from, cells[k:k+1], api.OK, 1)
				}
				if k < i {
					more := func() ([]api.Cell, api.Errno) { return tab.From(x, i-k+1) }
					looks(t, what, tab, more, nil, api.ErrCorrupt, i-k+1)
					looksFrom(t, what, tab, x, i-k, cells[k:i], i-k)
				}
			}
			if t.Failed() {
				t.FailNow()
			}
		}
	}
}

// What counts of a block is what stands at its place: what stands behind its
// frame doesn't, and the values of its first cell neither.
func TestBetweenBlocks(t *testing.T) {
	a, b := put("a", 1), with(put("b", 1), text("x"))
	ahead := slices.Concat(blockOf(a), []byte("between"), blockOf(b), []byte{0})
	tab := opened(t, raw(ahead, key(a), []byte{0}, key(b), codec.Num(len(blockOf(a))+7)))
	looks(t, "all", tab, tab.Cells, []api.Cell{a, b}, api.OK, 2)
	looksRow(t, "the second one's", tab, "b", []api.Cell{b}, 2)
}

// A block may be as great as a frame may be.
func TestGreatBlocks(t *testing.T) {
	var l []api.Cell
	for i := range 1000 {
		c := great("a", i)
		c.Row = many("\x00", 14) + string([]byte{byte(i / 100), byte(i % 100)})
		l = append(l, c)
	}
	n := len(l)
	for {
		if b, _ := block.Build(l[:n]); len(b) <= sum.MaxFrame {
			break
		}
		n--
	}
	if n < 300 || n > 900 {
		t.Fatal(n)
	}
	for _, n := range []int{1, 2, 100, 200, n - 1, n} {
		parts := [][]api.Cell{l[:n], {put("z", 1)}}
		tab := opened(t, laid(parts...))
		looks(t, "great", tab, tab.Cells, slices.Concat(parts...), api.OK, 2)
	}
}

// draw makes a cell of few places; some aren't right.
func draw(pick func(int) int, i int) api.Cell {
	if pick(300) == 0 {
		return wrong()[pick(len(wrong()))]
	}
	kinds := []int{api.CPut, api.CPut, api.CPut, api.CCell, api.CColumn, api.CFamily}
	c := api.Cell{Row: []string{"a", "a\x00", "b", "ba", "m"}[pick(5)], Fam: []string{"f", "g"}[pick(2)], Kind: kinds[pick(len(kinds))], Time: pick(20)}
	if c.Kind != api.CFamily {
		c.Qual = []string{"", "q", "q\x00"}[pick(3)]
	}
	if c.Kind == api.CPut {
		c.Val = []api.Value{whole(i), text(many("x", i%33)), {Kind: api.VBytes, S: many("\x00", i%33)}}[pick(3)]
	}
	return c
}

// asTold holds all calls for some cells against the chapter's words.
func asTold(t *testing.T, l []api.Cell, pick func(int) int) {
	t.Helper()
	right := true
	for i, c := range l {
		right = right && codec.Right(c) && (i == 0 || codec.Order(l[i-1], c) < 0)
	}
	if !right {
		if b, ok := table.Build(l); ok || len(b) != 0 {
			t.Errorf("Build of %v: %q, %v", l, b, ok)
		}
		return
	}
	isTable(t, "drawn", l)
	parts := block.Cut(l, api.BlockSize)
	tab := opened(t, plainly(l))
	for i := range 40 {
		c, most := draw(pick, i), pick(20)
		want, blocks := fromPlainly(parts, c, most)
		looksFrom(t, "drawn", tab, c, most, want, blocks)
		want = slices.DeleteFunc(slices.Clone(l), func(x api.Cell) bool { return x.Row != c.Row })
		if got, e := tab.Row(c.Row); !slices.Equal(got, want) || e != api.OK {
			t.Errorf("Row of %q: %v, %v", c.Row, got, e)
		}
	}
}

func TestAsTheChapterSays(t *testing.T) {
	r := rand.New(rand.NewSource(9))
	for range 200 {
		var l []api.Cell
		for i := range r.Intn(150) {
			l = append(l, draw(r.Intn, i))
		}
		asTold(t, l, r.Intn)
		slices.SortFunc(l, codec.Order)
		asTold(t, l, r.Intn)
		l = slices.CompactFunc(l, func(a, b api.Cell) bool { return codec.Order(a, b) == 0 })
		asTold(t, l, r.Intn)
		asTold(t, slices.DeleteFunc(l, func(c api.Cell) bool { return !codec.Right(c) }), r.Intn)
		if t.Failed() {
			return
		}
	}
}

// anyCalls holds of any bytes what holds of all: with an error there is nothing.
func anyCalls(t *testing.T, b []byte) {
	t.Helper()
	tab, e := table.Open(b)
	if e != api.OK {
		if e != api.ErrCorrupt || tab != nil {
			t.Errorf("%q: %v, %v", b, tab, e)
		}
		return
	}
	if tab.Blocks() != len(tab.Firsts()) || tab.Looked() != 0 {
		t.Errorf("%q: %d, %d, %d", b, tab.Blocks(), len(tab.Firsts()), tab.Looked())
	}
	check := func(l []api.Cell, e api.Errno) {
		if e != api.OK && (e != api.ErrCorrupt || len(l) != 0) {
			t.Errorf("%q: %v, %v", b, l, e)
		}
	}
	check(tab.Cells())
	check(tab.Row(""))
	check(tab.Row("b"))
	for _, c := range append(wrong(), put("b", 5)) {
		for _, most := range []int{math.MinInt, 0, 1, math.MaxInt} {
			check(tab.From(c, most))
		}
	}
}

func FuzzBytes(f *testing.F) {
	f.Add([]byte{})
	for _, parts := range some() {
		f.Add(laid(parts...))
	}
	f.Fuzz(func(t *testing.T, b []byte) { anyCalls(t, b) })
}

// FuzzParts makes the index's frame and its place right, so that what stands in it counts.
func FuzzParts(f *testing.F) {
	a, b := put("a", 1), put("b", 1)
	n := len(blockOf(a))
	f.Add(slices.Concat(blockOf(a), blockOf(b)), codec.List([][]byte{key(a), {0}, key(b), codec.Num(n)}))
	f.Add([]byte{}, []byte{0})
	f.Fuzz(func(t *testing.T, ahead, index []byte) {
		anyCalls(t, binary.BigEndian.AppendUint64(slices.Concat(ahead, framed(index)), uint64(len(ahead))))
	})
}

func TestAnyArguments(t *testing.T) {
	numbers := []int{math.MinInt, -1, 0, 1, 2, 3, 4, 5, api.MaxClock, api.MaxClock + 1, math.MaxInt}
	tab := opened(t, plainly(inOrder()))
	parts := block.Cut(inOrder(), api.BlockSize)
	for _, s := range []string{"", "f", "\x00", "\xff", many("x", 1<<12)} {
		for _, n := range numbers {
			for _, kind := range numbers {
				c := api.Cell{Row: s, Fam: s, Qual: s, Time: n, Kind: kind, Val: api.Value{Kind: n, N: n, S: s}}
				if b, ok := table.Build([]api.Cell{c}); ok != codec.Right(c) || ok != (len(b) > 0) {
					t.Errorf("Build of %v: %q, %v", c, b, ok)
				}
				want, blocks := fromPlainly(parts, c, n)
				looksFrom(t, "any", tab, c, n, want, blocks)
			}
		}
		tab.Row(s)
	}
	// Every text of few bytes, behind some and ahead of a place.
	signs := []byte{0, 1, 2, 9, 128, 255}
	var try func(b []byte, n int)
	try = func(b []byte, n int) {
		anyCalls(t, b)
		anyCalls(t, binary.BigEndian.AppendUint64(slices.Clone(b), 0))
		anyCalls(t, raw(nil, b))
		anyCalls(t, raw(blockOf(put("a", 1)), key(put("a", 1)), b))
		if n > 0 {
			for _, x := range signs {
				try(append(b[:len(b):len(b)], x), n-1)
			}
		}
	}
	try(nil, 4)
}

func TestArgumentsStay(t *testing.T) {
	n := len(inOrder())
	l := append(inOrder(), put("zz", 1), put("zz", 0))[:n]
	before := slices.Clone(l[:cap(l)])
	b := append(plainly(l), "spare"...)
	b = b[:len(b)-len("spare")]
	bytesBefore := slices.Clone(b[:cap(b)])
	table.Build(l)
	tab := opened(t, b)
	tab.Cells()
	for _, c := range l {
		tab.Row(c.Row)
		tab.From(c, 20)
	}
	tab.Firsts()
	for n := range b {
		table.Open(b[:n])
	}
	same(t, "the cells, and those behind", l[:cap(l)], before)
	if !bytes.Equal(b[:cap(b)], bytesBefore) {
		t.Error("the bytes, or those behind, were changed")
	}
}

// What is handed in isn't kept, and what is answered is new memory.
func TestNewMemory(t *testing.T) {
	l := inOrder()
	parts := block.Cut(l, api.BlockSize)
	b, _ := table.Build(l)
	tab := opened(t, b)
	kept := slices.Clone(b)
	other, _ := table.Build(l)
	spoil := func(b []byte) {
		b = b[:cap(b)]
		for i := range b {
			b[i] = 0x55
		}
	}
	spoil(b)
	if !bytes.Equal(other, kept) {
		t.Error("another answer of Build was changed")
	}
	spoilCells := func(l []api.Cell, e api.Errno) {
		l = l[:cap(l)]
		for i := range l {
			l[i] = put("spoilt", 1)
		}
	}
	firsts := tab.Firsts()
	for i := range firsts {
		again := tab.Firsts()
		spoil(again[i])
		for k := range again {
			if k != i && !bytes.Equal(again[k], firsts[k]) {
				t.Error("a key stands in another one's memory")
			}
		}
	}
	for range 2 {
		looks(t, "all", tab, tab.Cells, l, api.OK, len(parts))
		want, blocks := fromPlainly(parts, put("a", 90), 30)
		looksFrom(t, "from", tab, put("a", 90), 30, want, blocks)
		looksFrom(t, "one row", tab, put("\xff\xff", 0), 9, l[len(l)-1:], 1)
		for i, k := range tab.Firsts() {
			if !bytes.Equal(k, key(parts[i][0])) {
				t.Errorf("%q", k)
			}
		}
		spoilCells(tab.Cells())
		spoilCells(tab.Row("a"))
		spoilCells(tab.From(put("a", 90), 30))
		for _, k := range tab.Firsts() {
			spoil(k)
		}
		clear(tab.Firsts())
	}
}

// A look at one block takes no memory for what stands behind it.
func TestMemory(t *testing.T) {
	var l []api.Cell
	for i := range 700 {
		l = append(l, great("a", 1000-i))
	}
	tab := opened(t, plainly(l))
	var before, after runtime.MemStats
	runtime.ReadMemStats(&before)
	for _, c := range l {
		looksFrom(t, "one", tab, c, 1, []api.Cell{c}, 1)
	}
	runtime.ReadMemStats(&after)
	if n := after.TotalAlloc - before.TotalAlloc; n > 1<<23 {
		t.Errorf("%d bytes of memory", n)
	}
}

// Bytes aren't gone over as often as there are blocks, or as numbers tell.
func TestManyBytes(t *testing.T) {
	long := make([]byte, 1<<22)
	isNone(t, "noughts", long)
	isNone(t, "a great list", raw(long, bytes.Repeat([]byte{255}, 60000)))
	anyCalls(t, binary.BigEndian.AppendUint64(slices.Concat(long, framed(slices.Concat(codec.Num(math.MaxInt), make([]byte, 60000)))), uint64(len(long))))
	c := put("a", 1)
	for _, head := range [][]byte{nil, codec.Num(sum.MaxFrame), codec.Num(1 << 21), codec.Num(math.MaxInt), bytes.Repeat([]byte{255}, 99)} {
		tab := opened(t, raw(slices.Concat(head, long), key(c), []byte{0}))
		looks(t, "long", tab, tab.Cells, nil, api.ErrCorrupt, 1)
	}
	var l []api.Cell
	for i := range 1 << 15 {
		l = append(l, at(api.CFamily, "a", "f", "", 1<<20-i))
	}
	for range 10 {
		isTable(t, "many cells", l[:1<<14])
	}
	tab := opened(t, plainly(l[:1<<14]))
	for _, c := range l {
		tab.From(c, 1)
	}
}
