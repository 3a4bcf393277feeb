package engine_test

import (
	"encoding/binary"
	"maps"
	"math"
	"math/rand"
	"runtime"
	"slices"
	"strconv"
	"strings"
	"testing"

	"joist/api"
	"joist/block"
	"joist/cell"
	"joist/codec"
	"joist/engine"
	"joist/manifest"
	"joist/store"
	"joist/sum"
	"joist/table"
)

const (
	greatest = 1 << 40 // of an Applied, of a state's Gen
	mostNext = 999_999 // of a state's Next
	most     = 50      // tables
	room     = 1 << 20 // of a disk that has enough
	name     = "e"
)

func many(s string, n int) string { return strings.Repeat(s, n) }

// at is a cell of a column; a put's value is its time.
func at(kind int, row, fam, qual string, time int) api.Cell {
	c := api.Cell{Row: row, Fam: fam, Qual: qual, Time: time, Kind: kind}
	if kind == api.CPut {
		c.Val = api.Value{Kind: api.VInt, N: time}
	}
	return c
}

func put(row string, time int) api.Cell { return at(api.CPut, row, "f", "q", time) }

// of is a put with another value than put gives it.
func of(row string, time, value int) api.Cell {
	c := put(row, time)
	c.Val.N = value
	return c
}

// great is the put with the most bytes that a row's may have.
func great(row string, time int) api.Cell {
	c := at(api.CPut, row+many("\x00", api.MaxRow-len(row)), many("f", api.MaxName), many("\x00", api.MaxQual), time)
	c.Val = api.Value{Kind: api.VBytes, S: many("\x00", api.MaxData)}
	return c
}

// wrong are cells that aren't right.
func wrong() []api.Cell {
	valued := at(api.CCell, "r", "f", "q", 5)
	valued.Val.Kind = api.VInt
	bare := put("r", 5)
	bare.Val = api.Value{}
	return []api.Cell{
		{}, valued, bare,
		put("", 5), put(many("r", api.MaxRow+1), 5), put("r", -1), put("r", api.MaxClock+1), put("r", math.MaxInt),
		at(api.CPut, "r", "", "q", 5), at(api.CPut, "r", "F", "q", 5), at(api.CPut, "r", many("f", api.MaxName+1), "q", 5),
		at(api.CPut, "r", "f", many("q", api.MaxQual+1), 5), at(api.CFamily, "r", "f", "q", 5),
		at(0, "r", "f", "q", 5), at(5, "r", "f", "q", 5), at(math.MinInt, "r", "f", "q", 5),
	}
}

// mixed are right cells of all kinds, in order, no two of one place.
func mixed() []api.Cell {
	l := []api.Cell{put("\x00", 1), at(api.CFamily, "a", "f", "", 9), at(api.CColumn, "a", "f", "", 4)}
	for i := range 30 {
		l = append(l, put("a", 100-i))
	}
	return append(l, at(api.CPut, "a", "g", "q", 9), put("aa", 3), at(api.CCell, "b", "f", "q", 8), put("b", 8), put("b", 7),
		great("c", 7), great("c", 6), at(api.CFamily, "m", "a", "", api.MaxClock), put("m", 0), put(many("\xff", api.MaxRow), 0))
}

// in are cells in order, each once, whatever order they have: of one place the last.
func in(l ...api.Cell) []api.Cell {
	places := map[string]api.Cell{}
	for _, c := range l {
		k, _ := codec.Key(c)
		places[string(k)] = c
	}
	var out []api.Cell
	for _, k := range slices.Sorted(maps.Keys(places)) {
		out = append(out, places[k])
	}
	return out
}

func disk(t *testing.T, room int) *store.Disk {
	t.Helper()
	d, err := store.New(room)
	if err != api.OK {
		t.Fatal(err)
	}
	return d
}

func write(t *testing.T, d *store.Disk, file, b string) {
	t.Helper()
	if err := d.Write(file, []byte(b)); err != api.OK {
		t.Fatalf("%q of %d bytes: %d", file, len(b), err)
	}
}

// with is a disk with files that last.
func with(t *testing.T, room int, files map[string]string) *store.Disk {
	t.Helper()
	d := disk(t, room)
	for n, b := range files {
		write(t, d, n, b)
		d.Sync(n)
	}
	return d
}

// on are a disk's files.
func on(d *store.Disk) map[string]string {
	files := map[string]string{}
	for _, n := range d.Names() {
		b, _ := d.Read(n)
		files[n] = string(b)
	}
	return files
}

func size(files map[string]string) int {
	n := 0
	for _, b := range files {
		n += len(b)
	}
	return n
}

// has tells whether a disk has just these files, and all of them lasts.
func has(t *testing.T, what string, d *store.Disk, files map[string]string) {
	t.Helper()
	got := on(d)
	if !slices.Equal(slices.Sorted(maps.Keys(got)), slices.Sorted(maps.Keys(files))) || d.Loose() != 0 {
		t.Errorf("%s: files %q, not %q; %d loose", what, d.Names(), slices.Sorted(maps.Keys(files)), d.Loose())
	}
	for n, want := range files {
		if got[n] != want {
			t.Errorf("%s: %q has %q, not %q", what, n, got[n], want)
		}
	}
}

func open(t *testing.T, d *store.Disk) *engine.Engine {
	t.Helper()
	e, err := engine.Open(d, name)
	if err != api.OK || e == nil {
		t.Fatalf("open: %d", err)
	}
	return e
}

func puts(t *testing.T, e *engine.Engine, l ...api.Cell) {
	t.Helper()
	if !e.Put(l) {
		t.Fatalf("put of %v: false", l)
	}
}

func flushes(t *testing.T, e *engine.Engine, applied int, want api.Errno) {
	t.Helper()
	if err := e.Flush(applied); err != want {
		t.Errorf("flush of %d: %d, not %d", applied, err, want)
	}
}

func compacts(t *testing.T, e *engine.Engine, rules []engine.Rule, now int, want api.Errno) {
	t.Helper()
	if err := e.Compact(rules, now); err != want {
		t.Errorf("compact: %d, not %d", err, want)
	}
}

// tells holds what an engine tells: all cells, and those of each row.
func tells(t *testing.T, what string, e *engine.Engine, want []api.Cell) {
	t.Helper()
	if l, err := e.Cells(); err != api.OK || !slices.Equal(l, want) {
		t.Errorf("%s: %d, %v, not %v", what, err, l, want)
	}
	for _, row := range append(cell.Rows(want), "", "\x00", "a", "b", "m", "zz", many("\xff", 40)) {
		var of []api.Cell
		for _, c := range want {
			if c.Row == row {
				of = append(of, c)
			}
		}
		if l, err := e.Row(row); err != api.OK || !slices.Equal(l, of) {
			t.Errorf("%s: row %q: %d, %v, not %v", what, row, err, l, of)
		}
	}
}

func counts(t *testing.T, what string, e *engine.Engine, applied, tables, waiting int) {
	t.Helper()
	if e.Applied() != applied || e.Tables() != tables || e.Waiting() != waiting {
		t.Errorf("%s: %d applied, %d tables, %d waiting, not %d, %d, %d",
			what, e.Applied(), e.Tables(), e.Waiting(), applied, tables, waiting)
	}
}

func broken(t *testing.T, what string, e *engine.Engine, row string) {
	t.Helper()
	if l, err := e.Cells(); err != api.ErrCorrupt || len(l) != 0 {
		t.Errorf("%s: cells: %v, %d", what, l, err)
	}
	if l, err := e.Row(row); err != api.ErrCorrupt || len(l) != 0 {
		t.Errorf("%s: row: %v, %d", what, l, err)
	}
}

// tabled are a table's bytes.
func tabled(t *testing.T, l ...api.Cell) string {
	t.Helper()
	b, ok := table.Build(l)
	if !ok {
		t.Fatalf("no table of %v", l)
	}
	return string(b)
}

func framed(b []byte) string {
	f, ok := sum.Frame(b)
	if !ok {
		panic("no frame")
	}
	return string(f)
}

func state(gen, applied, next int, tables ...int) manifest.State {
	return manifest.State{Gen: gen, Applied: applied, Next: next, Tables: tables}
}

// stated are a manifest's bytes.
func stated(l ...manifest.State) string {
	var b strings.Builder
	for _, s := range l {
		body, ok := manifest.Encode(s)
		if !ok {
			panic("no state")
		}
		b.WriteString(framed(body))
	}
	return b.String()
}

// laid are the bytes of blocks with these cells, and an index of them; no order is
// asked for.
func laid(parts ...[]api.Cell) string {
	var b []byte
	var index [][]byte
	for _, p := range parts {
		key, _ := codec.Key(p[0])
		index = append(index, key, codec.Num(len(b)))
		body, _ := block.Build(p)
		b = append(b, framed(body)...)
	}
	return string(binary.BigEndian.AppendUint64(slices.Concat(b, []byte(framed(codec.List(index)))), uint64(len(b))))
}

// turned are bytes with one bit that is another one.
func turned(b string, i int) string { return b[:i] + string([]byte{b[i] ^ 1}) + b[i+1:] }

func TestExample(t *testing.T) {
	d := disk(t, room)
	e := open(t, d)
	puts(t, e, put("a", 1))
	flushes(t, e, 3, api.OK)
	puts(t, e, put("b", 2))
	tells(t, "ahead of the crash", e, []api.Cell{put("a", 1), put("b", 2)})
	d.Crash(0)
	e = open(t, d)
	tells(t, "behind the crash", e, []api.Cell{put("a", 1)})
	counts(t, "behind the crash", e, 3, 1, 0)
}

func TestNames(t *testing.T) {
	for _, n := range []string{"a", "z", "0", "9", "m", "abcdef", "012345", "zz99zz"} {
		d := disk(t, room)
		e, err := engine.Open(d, n)
		if err != api.OK || e == nil {
			t.Errorf("%q: %d", n, err)
			continue
		}
		has(t, n, d, nil)
		tells(t, n, e, nil)
		counts(t, n, e, 0, 0, 0)
		puts(t, e, put("r", 1))
		flushes(t, e, 7, api.OK)
		has(t, n, d, map[string]string{n + ".1": tabled(t, put("r", 1)), n + ".m": stated(state(1, 7, 2, 1))})
	}
	for _, n := range []string{
		"", "abcdefg", many("a", 17), many("a", 100_000), "A", "aB", "a.", ".", "a ", "a-", "a~", "é", "a\x00", "\x00", "\xff",
		"`", "{", "/", ":", "a/b", "abcdeF", "12345 ",
	} {
		files := map[string]string{"e.1": "x", "x": "y"}
		if n != "" && len(n) <= 12 {
			files[n+".m"], files[n+".m~"], files[n+".9"] = framed(nil), "x", "y"
		}
		d := with(t, room, files)
		if e, err := engine.Open(d, n); err != api.ErrForm || e != nil {
			t.Errorf("%q: %d", n, err)
		}
		has(t, n, d, files)
	}
}

// notOpened holds that there is no engine on a disk, and that it stays as it is.
func notOpened(t *testing.T, what string, files map[string]string) {
	t.Helper()
	d := with(t, room, files)
	if e, err := engine.Open(d, name); err != api.ErrCorrupt || e != nil {
		t.Errorf("%s: %d", what, err)
	}
	has(t, what, d, files)
}

func TestOpenErrors(t *testing.T) {
	good := tabled(t, mixed()...)
	files := func(first, second string) map[string]string {
		return map[string]string{
			"e.m": stated(state(4, 9, 8, 2, 7)), "e.7": first, "e.2": second, "e.3": "left", "e.m~": "left", "x": "other",
		}
	}
	d := with(t, room, files(good, good))
	tells(t, "whole", open(t, d), mixed())
	for i := range len(good) {
		notOpened(t, "cut", files(good[:i], good))
		notOpened(t, "a bit", files(good, turned(good, i)))
	}
	for what, bad := range map[string]string{
		"nothing": "", "a byte": "\x00", "eight bytes": many("\x00", 8), "a byte behind": good + "\x00", "two": good + good,
		"a torn block": good[1:], "a manifest": stated(state(1, 0, 1)), "an empty block": laid([]api.Cell{put("a", 1)})[:9] + good,
	} {
		notOpened(t, what, files(good, bad))
		notOpened(t, what, files(bad, good))
	}
	for _, n := range []string{"e.7", "e.2"} {
		l := files(good, good)
		delete(l, n)
		notOpened(t, n+" isn't there", l)
	}
	// A table is called by its number as it is told in decimal, not otherwise.
	l := files(good, good)
	delete(l, "e.2")
	l["e.02"], l["e.2~"], l["e2"], l["f.2"], l["E.2"] = good, good, good, good, good
	notOpened(t, "other names", l)
	// The manifest's error comes ahead of the tables', and that of the name first.
	l = files(good, good)
	l["e.m"] += stated(state(4, 9, 8))
	notOpened(t, "a manifest", l)
	l["e.m"] = framed(nil)
	notOpened(t, "a manifest that is none", l)
	l["E.m"] = l["e.m"]
	if e, err := engine.Open(with(t, room, l), "E"); err != api.ErrForm || e != nil {
		t.Error(err)
	}
}

// What a crash left is taken away, and nothing else.
func TestOpenSweeps(t *testing.T) {
	a, b := tabled(t, put("a", 1)), tabled(t, put("a", 2), put("b", 1))
	stays := map[string]string{
		"e.m": stated(state(1, 2, 90, 11, 2)), "e.11": a, "e.2": b,
		"e.": "x", "e": "x", "e1": "x", "e.1x": "x", "e.x1": "x", "e.1~": "x", "e.-1": "x", "e.+1": "x", "e. 1": "x", "e.1 ": "x", "e..1": "x",
		"e.1.1": "x", "e.m~~": "x", "e.m~1": "x", "e.mm": "x", "e.n": "x", "E.1": "x", "E.m~": "x", "ee.1": "x", "f.1": "x", "f.m": "x",
		"f.m~": "x", "1.1": "x", "x": "x", ".1": "x", "m~": "x", "e.\x01": "x", "e./": "x", "e.:": "x", "e.1:": "x", "e.é": "x", "~": "x",
	}
	files := maps.Clone(stays)
	for _, n := range []string{
		"0", "1", "3", "9", "10", "12", "89", "90", "999999", "02", "002", "011", "00", "22", "111", "1112", "99999999999999", "m~",
	} {
		files["e."+n] = "left"
	}
	d := with(t, room, files)
	e := open(t, d)
	has(t, "swept", d, stays)
	tells(t, "swept", e, []api.Cell{put("a", 2), put("a", 1), put("b", 1)})
	counts(t, "swept", e, 2, 2, 0)
	// Without a manifest nothing is told.
	delete(stays, "e.m")
	delete(stays, "e.2")
	delete(stays, "e.11")
	delete(files, "e.m")
	d = with(t, room, files)
	e = open(t, d)
	has(t, "none told", d, stays)
	tells(t, "none told", e, nil)
	counts(t, "none told", e, 0, 0, 0)
}

// The first table of the state is the newest, whatever its number.
func TestOpenNewest(t *testing.T) {
	tables := map[string]string{
		"e.1": tabled(t, of("a", 5, 1), of("b", 5, 1)), "e.2": tabled(t, of("b", 5, 2), of("c", 5, 2)), "e.30": tabled(t, of("a", 5, 3), of("c", 5, 3)),
	}
	for _, x := range []struct {
		order []int
		want  []api.Cell
	}{
		{[]int{1, 2, 30}, []api.Cell{of("a", 5, 1), of("b", 5, 1), of("c", 5, 2)}},
		{[]int{30, 2, 1}, []api.Cell{of("a", 5, 3), of("b", 5, 2), of("c", 5, 3)}},
		{[]int{2, 1, 30}, []api.Cell{of("a", 5, 1), of("b", 5, 2), of("c", 5, 2)}},
		{[]int{2, 30, 1}, []api.Cell{of("a", 5, 3), of("b", 5, 2), of("c", 5, 2)}},
		{[]int{1, 30, 2}, []api.Cell{of("a", 5, 1), of("b", 5, 1), of("c", 5, 3)}},
		{[]int{30, 1}, []api.Cell{of("a", 5, 3), of("b", 5, 1), of("c", 5, 3)}},
	} {
		files := maps.Clone(tables)
		files["e.m"] = stated(state(3, 4, 31, x.order...))
		e := open(t, with(t, room, files))
		tells(t, "order", e, x.want)
		counts(t, "order", e, 4, len(x.order), 0)
		// What is in memory is newer than all tables.
		puts(t, e, of("c", 5, 9))
		x.want[2] = of("c", 5, 9)
		tells(t, "memory", e, x.want)
		compacts(t, e, []engine.Rule{{Fam: "f", Versions: 1}}, 0, api.OK)
		tells(t, "compacted", e, x.want)
		counts(t, "compacted", e, 4, 1, 1)
	}
}

// A manifest's torn end doesn't count, and is taken off by what is saved next.
func TestOpenTorn(t *testing.T) {
	first, second := state(1, 2, 2, 1), state(2, 5, 3, 2, 1)
	files := map[string]string{"e.m": stated(first), "e.1": tabled(t, put("a", 1))}
	torn := stated(second)[:5]
	files["e.m"] += torn
	files["e.2"] = tabled(t, put("a", 2))
	d := with(t, room, files)
	e := open(t, d)
	delete(files, "e.2")
	has(t, "torn", d, files)
	tells(t, "torn", e, []api.Cell{put("a", 1)})
	puts(t, e, put("a", 3))
	flushes(t, e, 5, api.OK)
	files["e.m"], files["e.2"] = stated(first, second), tabled(t, put("a", 3))
	has(t, "flushed", d, files)
}

func TestPut(t *testing.T) {
	d := disk(t, room)
	e := open(t, d)
	puts(t, e)
	puts(t, e, []api.Cell{}...)
	counts(t, "nothing", e, 0, 0, 0)
	l := mixed()
	slices.Reverse(l)
	puts(t, e, l...)
	tells(t, "reversed", e, mixed())
	counts(t, "reversed", e, 0, 0, len(l))
	puts(t, e, l[3:9]...)
	counts(t, "again", e, 0, 0, len(l))
	// Of several of one place the last one counts, of one list and of several.
	puts(t, e, of("b", 8, 1), of("b", 8, 2), of("n", 1, 5), of("b", 8, 3))
	puts(t, e, of("n", 1, 6))
	tells(t, "the last", e, in(append(mixed(), of("b", 8, 3), of("n", 1, 6))...))
	has(t, "memory", d, nil)
}

func TestPutOfWrong(t *testing.T) {
	e := open(t, disk(t, room))
	puts(t, e, put("a", 1))
	for _, bad := range wrong() {
		for _, l := range [][]api.Cell{{bad}, {bad, put("b", 1)}, {put("b", 1), bad}, {put("b", 1), put("c", 1), bad, put("d", 1)}, {of("a", 1, 7), bad}} {
			if e.Put(l) {
				t.Errorf("%v: true", l)
			}
		}
	}
	tells(t, "wrong", e, []api.Cell{put("a", 1)})
	counts(t, "wrong", e, 0, 0, 1)
}

func TestFlush(t *testing.T) {
	d := disk(t, room)
	e := open(t, d)
	files, states := map[string]string{}, []manifest.State{}
	var numbers []int
	var all []api.Cell
	for i := 1; i <= 12; i++ {
		l := in(of("a", i, i), of("a", 100, i), of("r"+strconv.Itoa(i%5), 1, i), at(api.CColumn, "c", "f", "q", i/2))
		puts(t, e, l...)
		before := on(d)
		tells(t, "memory", e, in(append(all, l...)...))
		has(t, "memory", d, before)
		flushes(t, e, i/3, api.OK)
		numbers = append([]int{i}, numbers...)
		states = append(states, state(i, i/3, i+1, numbers...))
		files["e.m"] = stated(states...)
		files["e."+strconv.Itoa(i)] = tabled(t, l...)
		all = in(append(all, l...)...)
		has(t, "flushed", d, files)
		tells(t, "flushed", e, all)
		counts(t, "flushed", e, i/3, i, 0)
		again := open(t, d)
		tells(t, "opened", again, all)
		counts(t, "opened", again, i/3, i, 0)
		has(t, "opened", d, files)
	}
}

// Great tables have many blocks.
func TestFlushMuch(t *testing.T) {
	d := disk(t, room)
	e := open(t, d)
	var l []api.Cell
	for i := range 3000 {
		l = append(l, put("r"+strconv.Itoa(1000+i/3), 9-i%3))
	}
	puts(t, e, l...)
	flushes(t, e, 1, api.OK)
	has(t, "much", d, map[string]string{"e.1": tabled(t, l...), "e.m": stated(state(1, 1, 2, 1))})
	puts(t, e, l[:1500]...)
	puts(t, e, of("r1500", 9, 0))
	l[1500] = of("r1500", 9, 0)
	if got, err := open(t, d).Row("r1500"); err != api.OK || !slices.Equal(got, []api.Cell{put("r1500", 9), put("r1500", 8), put("r1500", 7)}) {
		t.Error(got, err)
	}
	if got, err := e.Cells(); err != api.OK || !slices.Equal(got, l) {
		t.Error(len(got), err)
	}
	if got, err := e.Row("r1500"); err != api.OK || !slices.Equal(got, l[1500:1503]) {
		t.Error(got, err)
	}
}

// flushed is an engine whose state has an Applied, and so many tables, with some
// cells in memory.
func flushed(t *testing.T, d *store.Disk, applied, tables, waiting int) *engine.Engine {
	t.Helper()
	e := open(t, d)
	for i := range tables {
		puts(t, e, of("t", i+1, i))
		flushes(t, e, applied, api.OK)
	}
	for i := range waiting {
		puts(t, e, put("w", i))
	}
	return e
}

func TestFlushApplied(t *testing.T) {
	for _, waiting := range []int{0, 1, 2} {
		for _, x := range []struct {
			has, applied int
			want         api.Errno
		}{
			{0, 0, api.OK}, {0, 1, api.OK}, {0, greatest, api.OK}, {0, greatest + 1, api.ErrForm}, {0, -1, api.ErrForm},
			{0, math.MinInt, api.ErrForm}, {0, math.MaxInt, api.ErrForm}, {5, 5, api.OK}, {5, 6, api.OK}, {5, 4, api.ErrForm},
			{5, 0, api.ErrForm}, {5, -5, api.ErrForm}, {greatest, greatest, api.OK}, {greatest, greatest - 1, api.ErrForm},
			{greatest, greatest + 1, api.ErrForm},
		} {
			d := disk(t, room)
			e := flushed(t, d, x.has, 2, waiting)
			files, cells := on(d), []api.Cell{of("t", 2, 1), of("t", 1, 0)}
			for i := waiting - 1; i >= 0; i-- {
				cells = append(cells, put("w", i))
			}
			flushes(t, e, x.applied, x.want)
			applied, tables, left := x.has, 2, waiting
			switch {
			case x.want != api.OK:
			case waiting > 0:
				files["e.3"] = tabled(t, cells[2:]...)
				files["e.m"] += stated(state(3, x.applied, 4, 3, 2, 1))
				applied, tables, left = x.applied, 3, 0
			case x.applied > x.has:
				// Without cells there is no table, but the state tells what was applied.
				files["e.m"] += stated(state(3, x.applied, 3, 2, 1))
				applied = x.applied
			}
			unchanged(t, "applied", d, files, e, cells, applied, tables, left)
			counts(t, "opened", open(t, d), applied, tables, 0)
		}
	}
	// A state without tables may be saved, too.
	d := disk(t, room)
	e := open(t, d)
	flushes(t, e, 0, api.OK)
	has(t, "none", d, nil)
	flushes(t, e, 8, api.OK)
	flushes(t, e, 8, api.OK)
	flushes(t, e, 9, api.OK)
	has(t, "two", d, map[string]string{"e.m": stated(state(1, 8, 1), state(2, 9, 1))})
	puts(t, e, put("a", 1))
	flushes(t, e, 9, api.OK)
	has(t, "three", d, map[string]string{"e.m": stated(state(1, 8, 1), state(2, 9, 1), state(3, 9, 2, 1)), "e.1": tabled(t, put("a", 1))})
}

func TestFlushMany(t *testing.T) {
	d := disk(t, room)
	e := flushed(t, d, 1, most, 0)
	counts(t, "fifty", e, 1, most, 0)
	// Without cells in memory none is one too many.
	flushes(t, e, 2, api.OK)
	puts(t, e, put("w", 1))
	files := on(d)
	cells, _ := e.Cells()
	flushes(t, e, 1, api.ErrForm)
	flushes(t, e, greatest+1, api.ErrForm)
	flushes(t, e, 2, api.ErrMany)
	flushes(t, e, 3, api.ErrMany)
	has(t, "many", d, files)
	tells(t, "many", e, cells)
	counts(t, "many", e, 2, most, 1)
	// Where there is no room, either, it is many.
	full := with(t, size(files), files)
	e = open(t, full)
	puts(t, e, put("w", 1))
	flushes(t, e, 3, api.ErrMany)
	has(t, "many", full, files)
	// All made one, there may be more.
	e = open(t, d)
	puts(t, e, put("w", 1))
	compacts(t, e, []engine.Rule{{Fam: "f", Versions: 8}}, 0, api.OK)
	flushes(t, e, 3, api.OK)
	counts(t, "compacted", e, 3, 2, 0)
	e = flushed(t, d, 3, most-2, 0)
	counts(t, "fifty again", e, 3, most, 0)
}

// unchanged holds that an engine, and its disk, are as they were.
func unchanged(t *testing.T, what string, d *store.Disk, files map[string]string, e *engine.Engine, cells []api.Cell, applied, tables, waiting int) {
	t.Helper()
	has(t, what, d, files)
	tells(t, what, e, cells)
	counts(t, what, e, applied, tables, waiting)
}

// A disk has room for the table and for the state, and not for a byte less.
func TestFlushFull(t *testing.T) {
	first := map[string]string{"e.1": tabled(t, put("a", 1)), "e.m": stated(state(1, 2, 2, 1)), "x": many("x", 199)}
	cells := []api.Cell{put("a", 1), put("b", 2), put("c", 3)}
	table, frame := tabled(t, cells[1:]...), stated(state(2, 7, 3, 2, 1))
	needed := size(first) + len(table) + len(frame)
	for _, less := range []int{1, 2, len(frame) - 1, len(frame), len(frame) + 1, len(frame) + len(table)} {
		d := with(t, needed-less, first)
		e := open(t, d)
		puts(t, e, cells[1:]...)
		for range 3 {
			flushes(t, e, 7, api.ErrFull)
			unchanged(t, "full", d, first, e, cells, 2, 1, 2)
		}
		flushes(t, e, 1, api.ErrForm)
		// What was in memory is still there when there is room.
		d.Remove("x")
		flushes(t, e, 7, api.OK)
		has(t, "room", d, map[string]string{"e.1": first["e.1"], "e.2": table, "e.m": first["e.m"] + frame})
		tells(t, "room", e, cells)
		counts(t, "room", e, 7, 2, 0)
	}
	d := with(t, needed, first)
	e := open(t, d)
	puts(t, e, cells[1:]...)
	flushes(t, e, 7, api.OK)
	counts(t, "just", e, 7, 2, 0)
	if d.Room() != 0 {
		t.Error(d.Room())
	}
	// No room for a state, where there is nothing else.
	d = with(t, size(first)+len(stated(state(2, 7, 2, 1)))-1, first)
	e = open(t, d)
	flushes(t, e, 7, api.ErrFull)
	flushes(t, e, 2, api.OK)
	unchanged(t, "no state", d, first, e, cells[:1], 2, 1, 0)
	d = disk(t, 0)
	e = open(t, d)
	puts(t, e, cells...)
	flushes(t, e, 7, api.ErrFull)
	unchanged(t, "no room", d, nil, e, cells, 0, 0, 3)
}

// tooGreat are just so many cells that their index has room in no frame.
func tooGreat() []api.Cell {
	var l []api.Cell
	for i := range 1000 {
		l = append(l, great("a", 1000-i))
	}
	n := 0
	for step := 512; step > 0; step /= 2 {
		if _, ok := table.Build(l[:n+step]); ok && n+step < len(l) {
			n += step
		}
	}
	return l[:n+1]
}

func TestFlushTooGreat(t *testing.T) {
	l := tooGreat()
	if len(l) < 100 || len(l) > 900 {
		t.Fatal(len(l))
	}
	d := disk(t, room)
	e := flushed(t, d, 3, 1, 0)
	files := on(d)
	puts(t, e, l...)
	flushes(t, e, 2, api.ErrForm)
	flushes(t, e, 4, api.ErrFull)
	unchanged(t, "too great", d, files, e, append(slices.Clone(l), of("t", 1, 0)), 3, 1, len(l))
	// One less has room.
	e = open(t, d)
	puts(t, e, l[1:]...)
	flushes(t, e, 4, api.OK)
	files["e.2"] = tabled(t, l[1:]...)
	files["e.m"] += stated(state(2, 4, 3, 2, 1))
	has(t, "not too great", d, files)
}

// What Save tells is told, and nothing of the table is left.
func TestFlushSave(t *testing.T) {
	for what, x := range map[string]struct {
		first manifest.State
		then  func(*store.Disk)
		want  api.Errno
	}{
		"Next":       {state(3, 4, mostNext, 1), func(*store.Disk) {}, api.ErrForm},
		"Gen":        {state(greatest, 4, 9, 1), func(*store.Disk) {}, api.ErrForm},
		"a state":    {state(3, 4, 9, 1), func(d *store.Disk) { manifest.Save(d, "e.m", state(4, 4, 9, 1)) }, api.ErrForm},
		"no state":   {state(3, 4, 9, 1), func(d *store.Disk) { d.Write("e.m", []byte(framed(nil))) }, api.ErrCorrupt},
		"other bits": {state(3, 4, 9, 1), func(d *store.Disk) { d.Write("e.m", []byte(many("\xff", 9))) }, api.ErrCorrupt},
	} {
		d := with(t, room, map[string]string{"e.m": stated(x.first), "e.1": tabled(t, put("a", 1))})
		e := open(t, d)
		puts(t, e, put("b", 2))
		x.then(d)
		d.Sync("e.m")
		files := on(d)
		for _, applied := range []int{4, 5} {
			flushes(t, e, applied, x.want)
			unchanged(t, what, d, files, e, []api.Cell{put("a", 1), put("b", 2)}, 4, 1, 1)
		}
		// Where there is no room either, that is named first.
		d = with(t, size(files)+8, files)
		if e, err := engine.Open(d, name); err == api.OK {
			puts(t, e, put("b", 2))
			flushes(t, e, 4, api.ErrFull)
			unchanged(t, what, d, files, e, []api.Cell{put("a", 1), put("b", 2)}, e.Applied(), 1, 1)
		}
	}
	// Without cells in memory there is no table, but a state that may not be.
	d := with(t, room, map[string]string{"e.m": stated(state(greatest, 4, 9))})
	e := open(t, d)
	flushes(t, e, 4, api.OK)
	flushes(t, e, 5, api.ErrForm)
	unchanged(t, "Gen", d, map[string]string{"e.m": stated(state(greatest, 4, 9))}, e, nil, 4, 0, 0)
	// The last number that a table may have.
	d = with(t, room, map[string]string{"e.m": stated(state(1, 4, mostNext-1))})
	e = open(t, d)
	puts(t, e, put("a", 1))
	flushes(t, e, 4, api.OK)
	puts(t, e, put("b", 1))
	flushes(t, e, 4, api.ErrForm)
	flushes(t, e, 5, api.ErrForm)
	has(t, "last", d, map[string]string{"e.m": stated(state(1, 4, mostNext-1), state(2, 4, mostNext, mostNext-1)), "e.999998": tabled(t, put("a", 1))})
}

// A manifest that has many bytes is begun anew.
func TestManyStates(t *testing.T) {
	d := disk(t, room)
	e := open(t, d)
	for i := range 400 {
		if i%7 == 0 {
			puts(t, e, of("a", i%40, i))
		}
		flushes(t, e, i, api.OK)
		if i%70 == 0 {
			compacts(t, e, []engine.Rule{{Fam: "f", Versions: 8}}, 0, api.OK)
		}
		if s, err := manifest.Load(d, "e.m"); err != api.OK || s.Applied != i || len(s.Tables) != e.Tables() || len(d.Names()) != 1+e.Tables() {
			t.Fatal(i, s, err, d.Names())
		}
		l, _ := e.Cells()
		tells(t, "opened", open(t, d), l)
	}
}

// A file that isn't told doesn't spoil the table that comes by its name.
func TestFlushOverAFile(t *testing.T) {
	d := disk(t, room)
	e := open(t, d)
	write(t, d, "e.1", "left")
	puts(t, e, put("a", 1))
	flushes(t, e, 1, api.OK)
	write(t, d, "e.2", tabled(t, put("x", 1)))
	compacts(t, e, []engine.Rule{{Fam: "f", Versions: 8}}, 0, api.OK)
	tells(t, "over", e, []api.Cell{put("a", 1)})
	d.Crash(0)
	tells(t, "opened", open(t, d), []api.Cell{put("a", 1)})
	has(t, "over", d, map[string]string{"e.2": tabled(t, put("a", 1)), "e.m": stated(state(1, 1, 2, 1), state(2, 1, 3, 2))})
}

func TestCompact(t *testing.T) {
	d := disk(t, room)
	e := open(t, d)
	puts(t, e, put("a", 5), put("a", 3), put("b", 9), at(api.CPut, "a", "g", "q", 4), at(api.CPut, "a", "h", "q", 4))
	flushes(t, e, 4, api.OK)
	puts(t, e, at(api.CColumn, "a", "f", "q", 3), of("a", 5, 55), put("a", 6), put("a", 7), at(api.CFamily, "b", "f", "", 9), put("b", 10))
	flushes(t, e, 6, api.OK)
	waiting := []api.Cell{at(api.CFamily, "a", "g", "", 9), of("a", 6, 66), put("c", 1)}
	puts(t, e, waiting...)
	rules := []engine.Rule{{Fam: "x", Versions: 1}, {Fam: "f", Versions: 2}, {Fam: "g", Versions: 1, Life: 6}, {Fam: "f", Versions: 8}}
	compacts(t, e, rules, 9, api.OK)
	kept := []api.Cell{put("a", 7), put("a", 6), at(api.CPut, "a", "g", "q", 4), put("b", 10)}
	states := []manifest.State{state(1, 4, 2, 1), state(2, 6, 3, 2, 1), state(3, 6, 4, 3)}
	files := map[string]string{"e.3": tabled(t, kept...), "e.m": stated(states...)}
	has(t, "compacted", d, files)
	// What is in memory stays there.
	tells(t, "compacted", e, in(append(kept, waiting...)...))
	counts(t, "compacted", e, 6, 1, 3)
	again := open(t, d)
	tells(t, "opened", again, kept)
	counts(t, "opened", again, 6, 1, 0)
	// Where nothing is to be changed a table is written all the same.
	compacts(t, again, rules, 9, api.OK)
	states = append(states, state(4, 6, 5, 4))
	has(t, "again", d, map[string]string{"e.4": files["e.3"], "e.m": stated(states...)})
	tells(t, "again", again, kept)
	// At a later moment one is gone.
	compacts(t, again, rules, 10, api.OK)
	kept = slices.Delete(kept, 2, 3)
	states = append(states, state(5, 6, 6, 5))
	has(t, "later", d, map[string]string{"e.5": tabled(t, kept...), "e.m": stated(states...)})
	tells(t, "later", again, kept)
	counts(t, "later", again, 6, 1, 0)
}

// Of no cells there is no table, but a state.
func TestCompactToNothing(t *testing.T) {
	d := disk(t, room)
	e := open(t, d)
	compacts(t, e, nil, 0, api.OK)
	has(t, "none", d, map[string]string{"e.m": stated(state(1, 0, 1))})
	puts(t, e, put("a", 1))
	compacts(t, e, []engine.Rule{{Fam: "f", Versions: 1}}, 0, api.OK)
	has(t, "none", d, map[string]string{"e.m": stated(state(1, 0, 1), state(2, 0, 1))})
	counts(t, "none", e, 0, 0, 1)
	for _, rules := range [][]engine.Rule{
		nil, {}, {{}}, {{Fam: "g", Versions: 1}}, {{Fam: "f"}}, {{Fam: "f", Versions: 9}}, {{Fam: "f", Versions: 1, Life: -1}},
		{{Fam: "f", Versions: 1, Life: 1}}, {{Fam: "f", Versions: 0}, {Fam: "f", Versions: 1}}, {{Fam: "F", Versions: 1}},
	} {
		d := disk(t, room)
		e := flushed(t, d, 5, 3, 1)
		compacts(t, e, rules, 1000, api.OK)
		states := []manifest.State{state(1, 5, 2, 1), state(2, 5, 3, 2, 1), state(3, 5, 4, 3, 2, 1), state(4, 5, 4)}
		has(t, "nothing", d, map[string]string{"e.m": stated(states...)})
		tells(t, "nothing", e, []api.Cell{put("w", 0)})
		counts(t, "nothing", e, 5, 0, 1)
		tells(t, "opened", open(t, d), nil)
		flushes(t, e, 5, api.OK)
		tells(t, "flushed", open(t, d), []api.Cell{put("w", 0)})
		has(t, "flushed", d, map[string]string{"e.m": stated(append(states, state(5, 5, 5, 4))...), "e.4": tabled(t, put("w", 0))})
	}
}

// A new table needs room beside the old ones, and a state its own.
func TestCompactFull(t *testing.T) {
	d := disk(t, room)
	e := flushed(t, d, 5, 3, 0)
	files := on(d)
	files["x"] = many("x", 199)
	cells, _ := e.Cells()
	rules := []engine.Rule{{Fam: "f", Versions: 2}}
	table, frame := tabled(t, cells[:2]...), stated(state(4, 5, 5, 4))
	needed := size(files) + len(table) + len(frame)
	for _, less := range []int{1, len(frame), len(frame) + 1, len(frame) + len(table)} {
		d := with(t, needed-less, files)
		e := open(t, d)
		puts(t, e, put("w", 1))
		for range 3 {
			compacts(t, e, rules, 0, api.ErrFull)
			unchanged(t, "full", d, files, e, append(slices.Clone(cells), put("w", 1)), 5, 3, 1)
		}
		d.Remove("x")
		compacts(t, e, rules, 0, api.OK)
		has(t, "room", d, map[string]string{"e.4": table, "e.m": files["e.m"] + frame})
	}
	d = with(t, needed, files)
	compacts(t, open(t, d), rules, 0, api.OK)
	has(t, "just", d, map[string]string{"e.4": table, "e.m": files["e.m"] + frame, "x": files["x"]})
	// A state alone needs room, too.
	d = with(t, size(files)+len(stated(state(4, 5, 4)))-1, files)
	e = open(t, d)
	compacts(t, e, nil, 0, api.ErrFull)
	unchanged(t, "no state", d, files, e, cells, 5, 3, 0)
	// All together the index may be too great.
	l := tooGreat()
	d = disk(t, room)
	e = open(t, d)
	for _, part := range [][]api.Cell{l[:100], l[100:]} {
		puts(t, e, part...)
		flushes(t, e, 1, api.OK)
	}
	files = on(d)
	rules = []engine.Rule{{Fam: many("f", api.MaxName), Versions: 8}}
	compacts(t, e, rules, 0, api.OK)
	has(t, "eight", d, map[string]string{"e.3": tabled(t, l[:8]...), "e.m": files["e.m"] + stated(state(3, 1, 4, 3))})
}

// Of cells of many columns all are kept, so that their index may be too great.
func TestCompactTooGreat(t *testing.T) {
	var l []api.Cell
	for i := range 1000 {
		l = append(l, great(strconv.Itoa(1000+i), 5))
	}
	d := disk(t, room)
	e := open(t, d)
	for _, part := range [][]api.Cell{l[:500], l[500:]} {
		puts(t, e, part...)
		flushes(t, e, 1, api.OK)
	}
	if _, ok := table.Build(l); ok {
		t.Fatal("not too great")
	}
	files := on(d)
	compacts(t, e, []engine.Rule{{Fam: many("f", api.MaxName), Versions: 8}}, 0, api.ErrFull)
	has(t, "too great", d, files)
	counts(t, "too great", e, 1, 2, 0)
	if got, err := e.Cells(); err != api.OK || !slices.Equal(got, l) {
		t.Error(len(got), err)
	}
}

func TestCompactSave(t *testing.T) {
	for what, x := range map[string]struct {
		first manifest.State
		then  func(*store.Disk)
		rules []engine.Rule
		want  api.Errno
	}{
		"Next":         {state(3, 4, mostNext, 1), func(*store.Disk) {}, []engine.Rule{{Fam: "f", Versions: 1}}, api.ErrForm},
		"Gen":          {state(greatest, 4, 9, 1), func(*store.Disk) {}, []engine.Rule{{Fam: "f", Versions: 1}}, api.ErrForm},
		"Gen, nothing": {state(greatest, 4, 9, 1), func(*store.Disk) {}, nil, api.ErrForm},
		"a state":      {state(3, 4, 9, 1), func(d *store.Disk) { manifest.Save(d, "e.m", state(4, 4, 9, 1)) }, []engine.Rule{{Fam: "f", Versions: 1}}, api.ErrForm},
		"no state":     {state(3, 4, 9, 1), func(d *store.Disk) { d.Write("e.m", []byte(framed(nil))) }, nil, api.ErrCorrupt},
	} {
		d := with(t, room, map[string]string{"e.m": stated(x.first), "e.1": tabled(t, put("a", 1))})
		e := open(t, d)
		x.then(d)
		d.Sync("e.m")
		files := on(d)
		compacts(t, e, x.rules, 0, x.want)
		unchanged(t, what, d, files, e, []api.Cell{put("a", 1)}, 4, 1, 0)
	}
	d := with(t, room, map[string]string{"e.m": stated(state(3, 4, mostNext, 1)), "e.1": tabled(t, put("a", 1))})
	compacts(t, open(t, d), nil, 0, api.OK)
	has(t, "no table", d, map[string]string{"e.m": stated(state(3, 4, mostNext, 1), state(4, 4, mostNext))})
}

// A table is its file: where that becomes another one, it counts as it is.
func TestNotWhole(t *testing.T) {
	rules := []engine.Rule{{Fam: "f", Versions: 8}}
	for _, ask := range []func(*engine.Engine){
		func(*engine.Engine) {},
		func(e *engine.Engine) { e.Cells() },
		func(e *engine.Engine) { e.Row("t") },
	} {
		for _, n := range []string{"e.1", "e.2", "e.3"} {
			first := disk(t, room)
			flushed(t, first, 5, 3, 0)
			good := on(first)
			bads := map[string]string{"empty": "", "a byte behind": good[n] + "x", "cut": good[n][1:]}
			for i := range len(good[n]) {
				bads["a bit "+strconv.Itoa(i)] = turned(good[n], i)
			}
			for what, bad := range bads {
				d := disk(t, room)
				e := flushed(t, d, 5, 3, 1)
				cells, _ := e.Cells()
				ask(e)
				d.Remove(n)
				broken(t, "not there", e, "t")
				broken(t, "not there", e, "a")
				write(t, d, n, bad)
				d.Sync(n)
				files := on(d)
				broken(t, what, e, "t")
				broken(t, what, e, "a")
				compacts(t, e, rules, 0, api.ErrCorrupt)
				compacts(t, e, nil, 0, api.ErrCorrupt)
				has(t, what, d, files)
				counts(t, what, e, 5, 3, 1)
				// What is in memory may be flushed all the same.
				flushes(t, e, 6, api.OK)
				broken(t, what, e, "w")
				counts(t, what, e, 6, 4, 0)
				// The file as it was is the table again.
				d.Remove(n)
				write(t, d, n, good[n])
				tells(t, "again", e, cells)
			}
		}
	}
	// A file of another table is that table.
	d := disk(t, room)
	e := flushed(t, d, 5, 1, 0)
	d.Remove("e.1")
	write(t, d, "e.1", tabled(t, put("x", 1), put("y", 1)))
	tells(t, "another", e, []api.Cell{put("x", 1), put("y", 1)})
	// No room, and a table that isn't whole: that it isn't is named first.
	d = disk(t, room)
	flushed(t, d, 5, 2, 0)
	files := on(d)
	full := with(t, size(files), files)
	e = open(t, full)
	compacts(t, e, rules, 0, api.ErrFull)
	full.Remove("e.1")
	full.Write("e.1", []byte(turned(files["e.1"], 3)))
	compacts(t, e, rules, 0, api.ErrCorrupt)
}

// Of a table whose blocks aren't in order the longest beginning counts that is a
// run, in all that is told.
func TestNoRun(t *testing.T) {
	cells := func(rows string) []api.Cell {
		var l []api.Cell
		for _, r := range rows {
			l = append(l, put(string(r), 1))
		}
		return l
	}
	for _, x := range []struct{ first, second, third, want string }{
		{"ac", "bd", "", "ac"}, {"ab", "bd", "", "ab"}, {"ac", "bd", "e", "ac"}, {"ab", "cf", "de", "abcf"}, {"ab", "cd", "ef", "abcdef"},
		{"ad", "bc", "cd", "ad"}, {"abz", "cd", "dz", "abz"}, {"a", "b", "c", "abc"},
	} {
		parts := [][]api.Cell{cells(x.first), cells(x.second)}
		if x.third != "" {
			parts = append(parts, cells(x.third))
		}
		d := with(t, room, map[string]string{"e.1": laid(parts...), "e.2": tabled(t, of("d", 1, 9), put("y", 1)), "e.m": stated(state(1, 1, 3, 1, 2))})
		e := open(t, d)
		want := in(append([]api.Cell{of("d", 1, 9), put("y", 1)}, cells(x.want)...)...)
		tells(t, x.want, e, want)
		for _, r := range "abcdefyz" {
			tells(t, x.want, e, want)
			if l, _ := e.Row(string(r)); len(l) != strings.Count(x.want+"y", string(r)) && r != 'd' {
				t.Errorf("%q, %q", x, r)
			}
		}
		puts(t, e, of("c", 1, 7))
		tells(t, x.want, e, in(append(slices.Clone(want), of("c", 1, 7))...))
		compacts(t, e, []engine.Rule{{Fam: "f", Versions: 1}}, 0, api.OK)
		has(t, x.want, d, map[string]string{"e.3": tabled(t, want...), "e.m": stated(state(1, 1, 3, 1, 2), state(2, 1, 4, 3))})
	}
}

func keeps(t *testing.T, l []api.Cell, rules []engine.Rule, now int, want ...api.Cell) {
	t.Helper()
	if got := engine.Keep(l, rules, now); !slices.Equal(got, want) {
		t.Errorf("keep of %v by %v at %d: %v, not %v", l, rules, now, got, want)
	}
}

func TestKeep(t *testing.T) {
	one := func(versions, life int) []engine.Rule {
		return []engine.Rule{{Fam: "f", Versions: versions, Life: life}}
	}
	l := []api.Cell{put("b", 1), put("a", 3), put("a", 5), put("a", 4)}
	keeps(t, nil, nil, 0)
	keeps(t, nil, one(1, 0), 0)
	keeps(t, l, nil, 0)
	keeps(t, l, one(1, 0), 0, put("a", 5), put("b", 1))
	keeps(t, l, one(2, 0), 0, put("a", 5), put("a", 4), put("b", 1))
	keeps(t, l, one(8, 0), math.MaxInt, put("a", 5), put("a", 4), put("a", 3), put("b", 1))
	keeps(t, l, one(8, 3), 7, put("a", 5))
	keeps(t, l, one(8, 3), 6, put("a", 5), put("a", 4))
	keeps(t, l, one(8, 3), 8)
	keeps(t, l, one(0, 0), 0)
	keeps(t, l, one(9, 0), 0)
	keeps(t, l, one(-1, 0), 0)
	keeps(t, l, one(1, -1), -9)
	// Cells that aren't right aren't there; of one place the last one counts.
	keeps(t, append(wrong(), of("a", 1, 2), put("", 3), of("a", 1, 3)), one(1, 0), 0, of("a", 1, 3))
	keeps(t, wrong(), []engine.Rule{{Fam: "", Versions: 1}, {Fam: "F", Versions: 1}, {Fam: many("f", api.MaxName+1), Versions: 1}}, 0)
	// What makes others gone isn't needed.
	gone := []api.Cell{at(api.CFamily, "a", "f", "", 3), at(api.CColumn, "b", "f", "q", 9), at(api.CCell, "a", "f", "q", 5)}
	keeps(t, append(gone, l...), one(8, 0), 0, put("a", 4))
	keeps(t, gone, one(8, 0), 0)
	// Each family by its own rule: the first one of its name. They stand in the cells' order.
	f := func(row, fam string, time int) api.Cell { return at(api.CPut, row, fam, "q", time) }
	l = []api.Cell{f("b", "g", 2), f("b", "f", 3), f("a", "g", 2), f("a", "f", 3), f("a", "g", 1), f("a", "f", 1), f("a", "h", 9), at(api.CFamily, "b", "g", "", 5)}
	keeps(t, l, []engine.Rule{{Fam: "g", Versions: 1}, {Fam: "f", Versions: 2}, {Fam: "g", Versions: 8}, {Fam: "x", Versions: 8}, {Fam: "f"}}, 0,
		f("a", "f", 3), f("a", "f", 1), f("a", "g", 2), f("b", "f", 3))
	keeps(t, l, []engine.Rule{{Fam: "g", Versions: 8}, {Fam: "g", Versions: 1}}, 0, f("a", "g", 2), f("a", "g", 1))
	keeps(t, l, []engine.Rule{{Fam: "g", Versions: 9}, {Fam: "g", Versions: 1}, {Fam: "h", Versions: 1, Life: 1}}, 9, f("a", "h", 9))
	keeps(t, l, []engine.Rule{{Fam: "g", Versions: 9}, {Fam: "g", Versions: 1}, {Fam: "h", Versions: 1, Life: 1}}, 10)
}

// crashes holds what an engine has that is opened behind a crash, however much of
// what doesn't last stays.
func crashes(t *testing.T, what string, files map[string]string, loose []string, want []api.Cell, applied, tables int) {
	t.Helper()
	for keep := range len(loose[1]) + 1 {
		d := with(t, room, files)
		write(t, d, loose[0], loose[1])
		d.Crash(keep)
		e := open(t, d)
		tells(t, what, e, want)
		counts(t, what, e, applied, tables, 0)
		// Nothing is left but the tables and the manifest.
		if len(d.Names()) != tables+1 {
			t.Errorf("%s, %d: %q", what, keep, d.Names())
		}
		puts(t, e, put("z", 1))
		flushes(t, e, applied, api.OK)
		tells(t, what, open(t, d), append(slices.Clone(want), put("z", 1)))
	}
}

// A crash behind each step of a Flush, and of a Compact: what a step writes is lost,
// or some of it.
func TestCrashes(t *testing.T) {
	d := disk(t, room)
	e := open(t, d)
	puts(t, e, put("a", 1), put("b", 1))
	flushes(t, e, 3, api.OK)
	first, old := on(d), []api.Cell{put("a", 1), put("b", 1)}
	puts(t, e, put("a", 2))
	flushes(t, e, 5, api.OK)
	second, all := on(d), []api.Cell{put("a", 2), put("a", 1), put("b", 1)}

	files := maps.Clone(first)
	crashes(t, "the table", files, []string{"e.2", second["e.2"]}, old, 3, 1)
	files["e.2"] = second["e.2"]
	frame := second["e.m"][len(first["e.m"]):]
	crashes(t, "the state", files, []string{"e.m", frame[:len(frame)-1]}, old, 3, 1)
	d = with(t, room, files)
	write(t, d, "e.m", frame)
	d.Crash(len(frame))
	tells(t, "all of the state", open(t, d), all)

	d = with(t, room, second)
	compacts(t, open(t, d), []engine.Rule{{Fam: "f", Versions: 1}}, 0, api.OK)
	third := on(d)
	files = maps.Clone(second)
	crashes(t, "the new table", files, []string{"e.3", third["e.3"]}, all, 5, 2)
	files["e.3"] = third["e.3"]
	frame = third["e.m"][len(second["e.m"]):]
	crashes(t, "the new state", files, []string{"e.m", frame[:len(frame)-1]}, all, 5, 2)
	files["e.m"] = third["e.m"]
	kept := []api.Cell{put("a", 2), put("b", 1)}
	for _, gone := range [][]string{{}, {"e.2"}, {"e.1"}, {"e.2", "e.1"}} {
		left := maps.Clone(files)
		for _, n := range gone {
			delete(left, n)
		}
		crashes(t, "the old ones", left, []string{"e.4", "x"}, kept, 5, 1)
	}
}

// Engines of several names don't know each other.
func TestNeighbours(t *testing.T) {
	d := disk(t, room)
	names := []string{"a", "aa", "a1", "1", "11", "m", "aaaaaa", "aaaaa1"}
	var engines []*engine.Engine
	for _, n := range names {
		e, err := engine.Open(d, n)
		if err != api.OK {
			t.Fatal(n, err)
		}
		engines = append(engines, e)
	}
	want := make([][]api.Cell, len(names))
	for round := range 4 {
		for i, e := range engines {
			c := of("r", round, i)
			puts(t, e, c)
			want[i] = in(append(want[i], c)...)
			if (round+i)%3 > 0 {
				flushes(t, e, round, api.OK)
			}
			if (round+i)%4 == 1 {
				compacts(t, e, []engine.Rule{{Fam: "f", Versions: 8}}, 0, api.OK)
			}
			tells(t, names[i], e, want[i])
		}
	}
	for i, e := range engines {
		flushes(t, e, 4, api.OK)
		again, err := engine.Open(d, names[i])
		if err != api.OK {
			t.Fatal(names[i], err)
		}
		tells(t, names[i], again, want[i])
	}
}

// plain is an engine told plainly: lists of cells, and what the files are to be.
type plain struct {
	memory []api.Cell   // as they were put
	tables [][]api.Cell // the newest first
	state  manifest.State
}

func (p *plain) cells() []api.Cell {
	var l []api.Cell
	for i := len(p.tables) - 1; i >= 0; i-- {
		l = append(l, p.tables[i]...)
	}
	return in(append(l, p.memory...)...)
}

// next saves a state with a table in front of others on a copy of the disk, and
// tells the error and what the copy has then.
func (p *plain) next(t *testing.T, d *store.Disk, room, applied int, l, old []api.Cell, others []int) (api.Errno, map[string]string) {
	twin := with(t, room, on(d))
	s := manifest.State{Gen: p.state.Gen + 1, Applied: applied, Next: p.state.Next, Tables: others}
	if len(l) > 0 {
		if twin.Write("e."+strconv.Itoa(s.Next), []byte(tabled(t, l...))) != api.OK {
			return api.ErrFull, on(twin)
		}
		s.Tables, s.Next = slices.Concat([]int{s.Next}, others), s.Next+1
	}
	if err := manifest.Save(twin, "e.m", s); err != api.OK {
		// What Save took off stays off; of the table nothing is left.
		twin.Remove("e." + strconv.Itoa(p.state.Next))
		return err, on(twin)
	}
	if others == nil {
		for _, n := range p.state.Tables {
			twin.Remove("e." + strconv.Itoa(n))
		}
	}
	p.state = s
	return api.OK, on(twin)
}

func (p *plain) flush(t *testing.T, d *store.Disk, room, applied int) (api.Errno, map[string]string) {
	switch l := in(p.memory...); {
	case applied < p.state.Applied || applied > greatest:
		return api.ErrForm, on(d)
	case len(l) == 0 && applied == p.state.Applied:
		return api.OK, on(d)
	case len(l) > 0 && len(p.tables) == most:
		return api.ErrMany, on(d)
	default:
		err, files := p.next(t, d, room, applied, l, nil, append([]int{}, p.state.Tables...))
		if err == api.OK && len(l) > 0 {
			p.tables, p.memory = append([][]api.Cell{l}, p.tables...), nil
		}
		return err, files
	}
}

func (p *plain) compact(t *testing.T, d *store.Disk, room int, rules []engine.Rule, now int) (api.Errno, map[string]string) {
	kept := keptPlainly((&plain{tables: p.tables}).cells(), rules, now)
	err, files := p.next(t, d, room, p.state.Applied, kept, nil, nil)
	if err == api.OK {
		p.tables = nil
		if len(kept) > 0 {
			p.tables = [][]api.Cell{kept}
		}
	}
	return err, files
}

// keptPlainly asks of each cell whether it is to be seen among its family's.
func keptPlainly(l []api.Cell, rules []engine.Rule, now int) []api.Cell {
	var kept []api.Cell
	for _, c := range cell.Sort(l) {
		i := slices.IndexFunc(rules, func(r engine.Rule) bool { return r.Fam == c.Fam })
		if i < 0 {
			continue
		}
		var family []api.Cell
		for _, x := range l {
			if x.Fam == c.Fam {
				family = append(family, x)
			}
		}
		if slices.Contains(cell.Seen(family, rules[i].Versions, rules[i].Life, now), c) {
			kept = append(kept, c)
		}
	}
	return kept
}

func drawCell(pick func(int) int) api.Cell {
	row := string([]byte{byte('a' + pick(6))})
	fam := string([]byte{byte('f' + pick(3))})
	c := at(1+pick(4), row, fam, many("q", pick(3)), pick(12))
	if c.Kind == api.CFamily {
		c.Qual = ""
	}
	if c.Kind == api.CPut {
		c.Val.N = pick(100)
	}
	return c
}

func drawRules(pick func(int) int) []engine.Rule {
	var l []engine.Rule
	for range pick(5) {
		l = append(l, engine.Rule{Fam: string([]byte{byte('f' + pick(4))}), Versions: pick(10), Life: pick(9) - 1})
	}
	return l
}

// step does one step with an engine and with one told plainly; it may be another
// engine behind it.
func step(t *testing.T, e *engine.Engine, p *plain, d *store.Disk, room int, pick func(int) int) *engine.Engine {
	files := on(d)
	switch pick(8) {
	case 0, 1, 2:
		var l []api.Cell
		for range pick(9) {
			l = append(l, drawCell(pick))
		}
		bad := wrong()
		if pick(4) == 0 {
			l = slices.Insert(l, pick(len(l)+1), bad[pick(len(bad))])
		} else {
			p.memory = append(p.memory, l...)
		}
		if ok := !slices.ContainsFunc(l, func(c api.Cell) bool { return !codec.Right(c) }); e.Put(l) != ok {
			t.Errorf("put of %v: %t", l, !ok)
		}
	case 3, 4, 5:
		applied := p.state.Applied + pick(4) - 1
		var want api.Errno
		want, files = p.flush(t, d, room, applied)
		flushes(t, e, applied, want)
	case 6:
		rules, now := drawRules(pick), pick(20)
		var want api.Errno
		want, files = p.compact(t, d, room, rules, now)
		compacts(t, e, rules, now, want)
	case 7:
		d.Write("e."+strconv.Itoa(p.state.Next+pick(3)), make([]byte, pick(30)))
		d.Write("e.m~", make([]byte, pick(30)))
		if _, whole, _ := manifest.Read([]byte(files["e.m"])); whole == len(files["e.m"]) {
			d.Write("e.m", []byte(stated(state(p.state.Gen+1, 0, 1)))[:pick(5)])
		}
		d.Crash(pick(70))
		torn, _ := d.Read("e.m")
		if e = open(t, d); len(torn) > 0 {
			files["e.m"] = string(torn)
		}
		p.memory = nil
	}
	has(t, "step", d, files)
	return e
}

// asTold does some steps, and holds what an engine tells against one told plainly.
func asTold(t *testing.T, steps int, pick func(int) int) {
	room := []int{0, 60, 400, 1000, 3000, 9000, 30_000}[pick(7)]
	d, p := disk(t, room), &plain{state: state(0, 0, 1)}
	e := open(t, d)
	for range steps {
		e = step(t, e, p, d, room, pick)
		tells(t, "as told", e, p.cells())
		counts(t, "as told", e, p.state.Applied, len(p.tables), len(in(p.memory...)))
		if t.Failed() {
			return
		}
	}
}

func TestAsTheChapterSays(t *testing.T) {
	for i := range 150 {
		asTold(t, 60, rand.New(rand.NewSource(int64(i))).Intn)
		if t.Failed() {
			t.Fatal(i)
		}
	}
}

func FuzzAsTheChapterSays(f *testing.F) {
	f.Add([]byte("\x06\x00\x08aaaaaaaaaaaaaaaaaa\x03\x02\x07"), 9)
	f.Fuzz(func(t *testing.T, b []byte, steps int) {
		asTold(t, min(steps, 40), func(n int) int {
			if len(b) == 0 {
				return n / 2
			}
			x := int(b[0]) % n
			b = b[1:]
			return x
		})
	})
}

// anyFiles opens what lies on a disk, whatever it is, and goes on with it.
func anyFiles(t *testing.T, room int, files map[string]string) {
	t.Helper()
	d := with(t, room, files)
	before := on(d)
	e, err := engine.Open(d, name)
	if err != api.OK {
		if err != api.ErrCorrupt || e != nil {
			t.Errorf("open: %d", err)
		}
		has(t, "not opened", d, before)
		return
	}
	s, _ := manifest.Load(d, "e.m")
	counts(t, "opened", e, s.Applied, len(s.Tables), 0)
	l, err := e.Cells()
	if err != api.OK || !slices.Equal(l, in(l...)) {
		t.Errorf("cells: %d, %v", err, l)
	}
	tells(t, "opened", e, l)
	puts(t, e, put("r", 1))
	if err := e.Flush(s.Applied); err == api.OK {
		tells(t, "flushed", open(t, d), in(append(l, put("r", 1))...))
	}
	e.Compact([]engine.Rule{{Fam: "f", Versions: 1}}, 0)
	if _, err := engine.Open(d, name); err != api.OK {
		t.Errorf("open again: %d", err)
	}
}

func TestAnyFiles(t *testing.T) {
	r := rand.New(rand.NewSource(12))
	first := disk(t, room)
	flushed(t, first, 5, 4, 0)
	good := on(first)
	for range 4000 {
		files := maps.Clone(good)
		for range r.Intn(4) {
			n := []string{"e.m", "e.1", "e.2", "e.3", "e.4", "e.5", "e.m~"}[r.Intn(7)]
			b := []byte(files[n])
			switch at := r.Intn(len(b) + 1); r.Intn(5) {
			case 0:
				b = b[:at]
			case 1:
				b = slices.Insert(b, at, byte(r.Int()))
			case 2:
				if at < len(b) {
					b[at] ^= 1 << r.Intn(8)
				}
			case 3:
				b = []byte(good["e."+strconv.Itoa(1+r.Intn(4))])
			case 4:
				delete(files, n)
				continue
			}
			files[n] = string(b)
		}
		anyFiles(t, size(files)+r.Intn(200), files)
		if t.Failed() {
			return
		}
	}
}

func FuzzFiles(f *testing.F) {
	f.Add([]byte(stated(state(1, 2, 3, 2))), []byte(laid([]api.Cell{put("a", 1)}, []api.Cell{put("b", 1)})), []byte("x"))
	f.Fuzz(func(t *testing.T, m, one, two []byte) {
		anyFiles(t, len(m)+len(one)+len(two)+100, map[string]string{"e.m": string(m), "e.1": string(one), "e.2": string(two)})
		// With a sum that is right what stands in a block counts.
		if body, ok := sum.Frame(one); ok {
			c := put("a", 1)
			key, _ := codec.Key(c)
			b := binary.BigEndian.AppendUint64(slices.Concat(body, []byte(framed(codec.List([][]byte{key, {0}})))), uint64(len(body)))
			anyFiles(t, room, map[string]string{"e.m": stated(state(1, 2, 3, 2)), "e.2": string(b)})
		}
	})
}

// Every call ends, and none panics.
func TestAnyArguments(t *testing.T) {
	ends := []int{math.MinInt, math.MinInt + 1, -greatest, -1, 0, 1, 2, 8, 9, greatest, greatest + 1, math.MaxInt - 1, math.MaxInt}
	texts := []string{"", "\x00", "f", "F", "\xff", many("x", 16), many("x", 17), many("\xff", 100_000)}
	var cells []api.Cell
	for _, s := range texts {
		for _, n := range ends {
			cells = append(cells, api.Cell{Row: s, Fam: s, Qual: s, Time: n, Kind: n, Val: api.Value{Kind: n, N: n, S: s}})
		}
	}
	var rules []engine.Rule
	for _, s := range texts {
		for _, v := range ends {
			for _, l := range ends {
				rules = append(rules, engine.Rule{Fam: s, Versions: v, Life: l})
			}
		}
	}
	d := disk(t, room)
	e := open(t, d)
	if e.Put(cells) || e.Waiting() != 0 {
		t.Error(e.Waiting())
	}
	for _, n := range ends {
		puts(t, e, put("r", 1), put("s", api.MaxClock))
		e.Flush(n)
		for i := range len(rules) / 50 {
			e.Compact(rules[i*50:], n)
			engine.Keep(append(slices.Clone(cells), mixed()...), rules[i*50:], n)
		}
		for _, s := range texts {
			if l, err := e.Row(s); err != api.OK || len(l) != 0 {
				t.Errorf("%q: %v, %d", s[:min(len(s), 20)], l, err)
			}
			engine.Open(d, s)
		}
	}
	open(t, d)
}

// Many rules, and many cells, are gone over once.
func TestMuch(t *testing.T) {
	var l []api.Cell
	var rules []engine.Rule
	for i := range 100_000 {
		l = append(l, at(api.CPut, "r"+strconv.Itoa(i%1000), "f"+strconv.Itoa(i%20_000), "q", i))
		rules = append(rules, engine.Rule{Fam: "f" + strconv.Itoa(i%50_000), Versions: 1})
	}
	if got := engine.Keep(l, rules, 0); len(got) != 20_000 {
		t.Error(len(got))
	}
	d := disk(t, 1<<24)
	e := open(t, d)
	puts(t, e, l...)
	if got, err := e.Cells(); err != api.OK || len(got) != len(l) {
		t.Error(len(got), err)
	}
	if got, err := e.Row("r7"); err != api.OK || len(got) != 100 {
		t.Error(len(got), err)
	}
	flushes(t, e, 1, api.ErrFull)
	counts(t, "much", e, 0, 0, len(l))
}

// Of tables that don't count any more nothing is kept.
func TestMemory(t *testing.T) {
	d := disk(t, room)
	e := open(t, d)
	var l []api.Cell
	for i := range 100 {
		l = append(l, great(strconv.Itoa(1000+i), 5))
	}
	var before, after runtime.MemStats
	runtime.GC()
	runtime.ReadMemStats(&before)
	for i := range 300 {
		puts(t, e, l...)
		flushes(t, e, i, api.OK)
		compacts(t, e, []engine.Rule{{Fam: many("f", api.MaxName), Versions: 8}}, 0, api.OK)
	}
	runtime.GC()
	runtime.ReadMemStats(&after)
	if n := int(after.HeapAlloc) - int(before.HeapAlloc); n > 1<<21 {
		t.Error(n)
	}
	if got, err := e.Cells(); err != api.OK || !slices.Equal(got, l) {
		t.Error(len(got), err)
	}
}

// full gives a list with spare room, and what all of that holds.
func full[T any](l []T, more T) ([]T, []T) {
	l = append(make([]T, 0, len(l)+3), l...)
	for i := range l[len(l):cap(l)] {
		l[len(l):cap(l)][i] = more
	}
	return l, slices.Clone(l[:cap(l)])
}

func TestArgumentsStay(t *testing.T) {
	d := disk(t, room)
	e := open(t, d)
	l := mixed()
	slices.Reverse(l)
	l, cells := full(append(l, l[3], l[5]), put("spare", 1))
	rules, before := full([]engine.Rule{{Fam: "g", Versions: 1}, {Fam: "f", Versions: 8, Life: 5}, {Fam: "g", Versions: 3}}, engine.Rule{Fam: "spare"})
	puts(t, e, l...)
	flushes(t, e, 3, api.OK)
	puts(t, e, l...)
	engine.Keep(l, rules, 9)
	if !slices.Equal(l[:cap(l)], cells) {
		t.Error("cells are changed")
	}
	// What is handed in isn't kept.
	for i := range l[:cap(l)] {
		l[:cap(l)][i] = api.Cell{}
	}
	tells(t, "not kept", e, mixed())
	compacts(t, e, rules, 9, api.OK)
	if !slices.Equal(rules[:cap(rules)], before) {
		t.Error("rules are changed")
	}
	tells(t, "not kept", e, mixed())
}

func TestAnswersAreNew(t *testing.T) {
	e := open(t, disk(t, room))
	puts(t, e, mixed()[:10]...)
	flushes(t, e, 3, api.OK)
	puts(t, e, mixed()[5:]...)
	rules := []engine.Rule{{Fam: "f", Versions: 8}}
	l := mixed()
	want := engine.Keep(l, rules, 0)
	for _, ask := range []func() []api.Cell{
		func() []api.Cell { l, _ := e.Cells(); return l },
		func() []api.Cell { l, _ := e.Row("a"); return l },
		func() []api.Cell { l, _ := e.Row("b"); return l },
		func() []api.Cell { return engine.Keep(l, rules, 0) },
	} {
		one, two := ask(), ask()
		was := slices.Clone(two)
		for i := range one[:cap(one)] {
			one[:cap(one)][i] = api.Cell{}
		}
		if !slices.Equal(two, was) || !slices.Equal(ask(), was) || len(was) == 0 {
			t.Errorf("what is answered shares memory: %v", two)
		}
	}
	tells(t, "new", e, mixed())
	if !slices.Equal(l, mixed()) || !slices.Equal(engine.Keep(l, rules, 0), want) {
		t.Error("cells are changed")
	}
}
