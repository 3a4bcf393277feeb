package manifest_test

import (
	"bytes"
	"math"
	"math/rand"
	"runtime"
	"slices"
	"strconv"
	"strings"
	"testing"

	"joist/api"
	"joist/manifest"
	"joist/store"
	"joist/sum"
)

const (
	greatest = 1 << 40 // of a Gen, of an Applied
	mostNext = 999_999 // of a Next
	most     = 50      // tables
	enough   = 2048    // bytes of a manifest that is begun anew
	great    = 1 << 24 // a disk's room
	name     = "r.m"   // of a manifest
	aside    = name + "~"
)

func many(s string, n int) string { return strings.Repeat(s, n) }

func state(gen, applied, next int, tables ...int) manifest.State {
	return manifest.State{Gen: gen, Applied: applied, Next: next, Tables: tables}
}

// none is the state of a manifest without any.
func none() manifest.State { return state(0, 0, 1) }

// upTo are so many tables, the newest first.
func upTo(n int) []int {
	var l []int
	for i := range n {
		l = append(l, n-i)
	}
	return l
}

// right are states that are right.
func right() []manifest.State {
	return []manifest.State{
		state(1, 0, 1),
		{Gen: 1, Applied: 0, Next: 1, Tables: []int{}},
		state(greatest, greatest, mostNext),
		state(1, 0, 2, 1),
		state(2, 3, 300, 299, 1, 127, 128),
		state(127, 128, 16384, 16383, 1, 300),
		state(128, 127, mostNext, mostNext-1),
		state(5, 6, most+1, upTo(most)...),
		state(greatest, greatest, mostNext, slices.Concat(upTo(most-1), []int{mostNext - 1})...),
	}
}

// wrong are states that aren't right.
func wrong() []manifest.State {
	l := []manifest.State{
		{},
		none(),
		state(0, 0, 2, 1),
		state(1, 0, 2, 2), state(1, 0, 2, 3), state(1, 0, 2, 0), state(1, 0, 2, -1),
		state(1, 0, 1, 1), state(1, 0, 1, 0),
		state(1, 0, 9, 1, 1), state(1, 0, 9, 3, 2, 1, 3), state(1, 0, 9, 1, 2, 3, 2), state(1, 0, 9, 1, 2, 9),
		state(1, 0, 9, 1, 2, math.MaxInt), state(1, 0, 9, math.MinInt),
		state(1, 0, mostNext, mostNext),
		state(1, 0, most+2, upTo(most+1)...),
		state(1, 0, mostNext, upTo(100_000)...),
		state(1, 0, 2, make([]int, most+1)...),
	}
	for _, n := range []int{math.MinInt, -greatest, -1, 0, greatest + 1, math.MaxInt} {
		l = append(l, state(n, 1, 2, 1))
		if n != 0 {
			l = append(l, state(1, n, 2, 1))
		}
	}
	for _, n := range []int{math.MinInt, -mostNext, -1, 0, mostNext + 1, greatest, math.MaxInt} {
		l = append(l, state(1, 1, n), state(1, 1, n, 1))
	}
	return l
}

// number is a number's bytes, told plainly.
func number(n int) string {
	var b []byte
	for n > 127 {
		b = append(b, byte(128+n%128))
		n /= 128
	}
	return string(append(b, byte(n)))
}

func numbers(l ...int) string {
	var b strings.Builder
	for _, n := range l {
		b.WriteString(number(n))
	}
	return b.String()
}

// told is a state's bytes, told plainly, also those that one would have that isn't
// right (but for numbers below 0).
func told(s manifest.State) string {
	return numbers(s.Gen, s.Applied, s.Next, len(s.Tables)) + numbers(s.Tables...)
}

func framed(b string) string {
	f, ok := sum.Frame([]byte(b))
	if !ok {
		panic("no frame")
	}
	return string(f)
}

// file is a manifest's bytes.
func file(l ...manifest.State) string {
	var b strings.Builder
	for _, s := range l {
		b.WriteString(framed(told(s)))
	}
	return b.String()
}

// states are so many, one behind the other, with none to nineteen tables.
func states(first, count int) []manifest.State {
	var l []manifest.State
	for i := range count {
		l = append(l, state(first+i, i*1000, 21, upTo(i%20)...))
	}
	return l
}

// same holds states against each other without a call of the package.
func same(a, b manifest.State) bool {
	return a.Gen == b.Gen && a.Applied == b.Applied && a.Next == b.Next && slices.Equal(a.Tables, b.Tables)
}

func TestExample(t *testing.T) {
	d := disk(t, 1000)
	saves(t, d, state(1, 0, 1), api.OK)
	saves(t, d, state(2, 0, 1), api.OK)
	d.Crash(0)
	loads(t, d, state(2, 0, 1), api.OK)
}

func TestRight(t *testing.T) {
	for _, s := range right() {
		if !manifest.Right(s) {
			t.Errorf("%+v is wrong", s)
		}
	}
	for _, s := range wrong() {
		if manifest.Right(s) {
			t.Errorf("%d, %d, %d, %d tables: right", s.Gen, s.Applied, s.Next, len(s.Tables))
		}
	}
}

// Two tables that are one are found wherever they stand.
func TestTablesTwice(t *testing.T) {
	for n := 2; n <= most; n++ {
		for i := range n {
			for j := range i {
				l := upTo(n)
				l[i] = l[j]
				if manifest.Right(state(1, 0, most+1, l...)) {
					t.Fatalf("%d: right", l)
				}
			}
		}
	}
}

func TestEncode(t *testing.T) {
	for _, x := range []struct {
		s    manifest.State
		want string
	}{
		{state(1, 0, 1), "\x01\x00\x01\x00"},
		{state(2, 3, 300, 299, 1), "\x02\x03\xac\x02\x02\xab\x02\x01"},
		{state(greatest, greatest, mostNext), many("\x80\x80\x80\x80\x80\x20", 2) + "\xbf\x84\x3d\x00"},
	} {
		if b, ok := manifest.Encode(x.s); string(b) != x.want || !ok {
			t.Errorf("%+v: %q, %t", x.s, b, ok)
		}
	}
	for _, s := range right() {
		if b, ok := manifest.Encode(s); string(b) != told(s) || !ok {
			t.Errorf("%+v: %q, %t", s, b, ok)
		}
	}
	for _, s := range wrong() {
		if b, ok := manifest.Encode(s); len(b) != 0 || ok {
			t.Errorf("%d, %d, %d, %d tables: %q, %t", s.Gen, s.Applied, s.Next, len(s.Tables), b, ok)
		}
	}
}

func decodes(t *testing.T, b string, want manifest.State, ok bool) {
	t.Helper()
	if s, is := manifest.Decode([]byte(b)); is != ok || !same(s, want) {
		t.Errorf("%q: %+v, %t, not %+v, %t", b[:min(len(b), 500)], s, is, want, ok)
	}
}

func TestDecode(t *testing.T) {
	for _, s := range right() {
		b := told(s)
		decodes(t, b, s, true)
		for i := range len(b) {
			decodes(t, b[:i], manifest.State{}, false)
		}
		for _, more := range []string{"\x00", "\x01", "\x80", "\xff", many("\x01", 60), b} {
			decodes(t, b+more, manifest.State{}, false)
		}
	}
	for _, s := range wrong() {
		if s.Gen >= 0 && s.Applied >= 0 && s.Next >= 0 && !slices.ContainsFunc(s.Tables, func(n int) bool { return n < 0 }) {
			decodes(t, told(s), manifest.State{}, false)
		}
	}
}

// Each number is there once, as few bytes of it as can be.
func TestDecodeOfOthers(t *testing.T) {
	for _, b := range []string{
		"",
		"\x81\x00\x00\x01\x00",
		"\x01\x80\x00\x01\x00",
		"\x01\x00\x81\x00\x00",
		"\x01\x00\x01\x80\x00",
		"\x01\x00\x03\x01\x81\x00",
		"\x01\x00\x03\x01\x80",
		"\x01\x00\x03\x01\x80\x80\x80\x80\x80\x80\x80\x80\x80\x01",
		"\x80\x80\x80\x80\x80\x80\x80\x80\x80\x01\x00\x01\x00",
		many("\xff", 9) + "\x01\x00\x01\x00",
		many("\xff", 100),
		many("\x80", 100),
		many("\x01", 1_000_000),
		many("\x00", 1_000_000),
		numbers(1, 0, 3, 0, 1),
		numbers(1, 0, 3, 1),
		numbers(1, 0, 3, 1, 1, 2),
		numbers(1, 0, 3, 2, 1),
		numbers(1, 0, 3, math.MaxInt),
		numbers(1, 0, 3, math.MaxInt, 1),
		numbers(1, 0, 3, 1<<56, 1),
		numbers(1, 0, 3, 256, 1),
		numbers(math.MaxInt, 0, 3, 1, 1),
		numbers(1, 0, 3),
		numbers(1, 0),
		numbers(1),
	} {
		decodes(t, b, manifest.State{}, false)
	}
	decodes(t, numbers(1, 0, 3, 1, 1), state(1, 0, 3, 1), true)
	decodes(t, numbers(1, 0, 3, 2, 1, 2), state(1, 0, 3, 1, 2), true)
}

func TestSame(t *testing.T) {
	l := slices.Concat(right(), wrong())
	for _, a := range l {
		for _, b := range l {
			if manifest.Same(a, b) != same(a, b) {
				t.Errorf("%d and %d: %t", a.Gen, b.Gen, !same(a, b))
			}
		}
	}
	s := state(1, 2, 9, 3, 4)
	for _, other := range []manifest.State{
		state(2, 2, 9, 3, 4), state(1, 3, 9, 3, 4), state(1, 2, 8, 3, 4), state(1, 2, 9, 3, 5), state(1, 2, 9, 2, 4),
		state(1, 2, 9, 4, 3), state(1, 2, 9, 3), state(1, 2, 9, 3, 4, 5), state(1, 2, 9), state(2, 1, 9, 3, 4), {},
	} {
		if manifest.Same(s, other) || manifest.Same(other, s) {
			t.Errorf("%+v is %+v", s, other)
		}
	}
	if !manifest.Same(s, state(1, 2, 9, 3, 4)) {
		t.Error("a state isn't itself")
	}
	if !manifest.Same(state(1, 2, 9), manifest.State{Gen: 1, Applied: 2, Next: 9, Tables: []int{}}) {
		t.Error("no tables aren't no tables")
	}
}

func reads(t *testing.T, b string, want manifest.State, size int, err api.Errno) {
	t.Helper()
	s, n, e := manifest.Read([]byte(b))
	if !same(s, want) || n != size || e != err {
		t.Errorf("%q: %+v, %d, %d, not %+v, %d, %d", b[:min(len(b), 500)], s, n, e, want, size, err)
	}
}

func corrupt(t *testing.T, b string) {
	t.Helper()
	reads(t, b, manifest.State{}, 0, api.ErrCorrupt)
}

func TestRead(t *testing.T) {
	reads(t, "", none(), 0, api.OK)
	for _, s := range right() {
		b := file(s)
		reads(t, b, s, len(b), api.OK)
		if s.Gen < greatest {
			next := state(s.Gen+1, 0, 1)
			b += file(next)
			reads(t, b, next, len(b), api.OK)
		}
	}
	l := states(40, 500)
	for i, s := range l {
		b := file(l[:i+1]...)
		reads(t, b, s, len(b), api.OK)
	}
	b := file(state(greatest-1, 1, 2, 1), state(greatest, 0, 1))
	reads(t, b, state(greatest, 0, 1), len(b), api.OK)
	// Other numbers than the Gen may go back.
	b = file(state(7, 9, 9, 8, 7, 6), state(8, 0, 2, 1), state(9, 4, 3))
	reads(t, b, state(9, 4, 3), len(b), api.OK)
}

func TestReadTorn(t *testing.T) {
	l := []manifest.State{state(7, 0, 1), state(8, 300, 300, upTo(40)...), state(9, greatest, mostNext, 5)}
	b := file(l...)
	for i := range len(b) {
		want, size := none(), 0
		for k := range l {
			if n := len(file(l[:k+1]...)); n <= i {
				want, size = l[k], n
			}
		}
		reads(t, b[:i], want, size, api.OK)
	}
	// What is torn may be of no state, nor of one that may stand there.
	for _, end := range []string{
		"\x01", "\x00", "\x00\x00\x00\x00", "\x80", many("\x80", 8), "\x05abcd", "\x80\x80\x04", "\x80\x80\x04" + many("x", 1000),
		file(state(3, 0, 1))[:5], file(state(9, 0, 1))[:8],
	} {
		reads(t, end, none(), 0, api.OK)
		reads(t, b+end, l[2], len(b), api.OK)
	}
}

func TestReadCorrupt(t *testing.T) {
	one, two := file(state(7, 0, 1)), file(state(8, 1, 2, 1))
	for _, bad := range []string{
		framed(""), framed("\x00"), framed("abc"), framed(told(state(8, 1, 2, 1)) + "\x00"), framed(told(none())),
		file(state(8, 1, 2, 2)), file(state(8, 1, 9, 1, 1)), file(state(8, 1, mostNext+1)), file(state(8, 1, most+2, upTo(most+1)...)),
		framed(many("\x01", sum.MaxFrame)), framed(many("\x00", sum.MaxFrame)),
		"\x81\x80\x04", many("\xff", 9), many("\x80", 9), "\x80\x00", "\x00\x00\x00\x00\x00", "\x01a\x00\x00\x00\x00",
	} {
		corrupt(t, bad)
		corrupt(t, one+bad)
		corrupt(t, one+two+bad)
		corrupt(t, bad+one)
		corrupt(t, one+bad+two)
		corrupt(t, bad+"\x80")
	}
	for _, gen := range []int{1, 6, 7, 9, 10, 7 + 256, greatest} {
		corrupt(t, one+file(state(gen, 0, 1)))
		corrupt(t, one+file(state(gen, 0, 1))+"\x80")
		corrupt(t, one+two+file(state(gen+1, 0, 1), state(gen+2, 0, 1)))
	}
	corrupt(t, two+one)
	corrupt(t, file(state(greatest, 0, 1), state(1, 0, 1)))
}

// Where a bit is turned, no state is told from there on: all is corrupt, or, if it
// is a length that is told, what is behind it may be torn.
func TestReadTurned(t *testing.T) {
	l := states(300, 3)
	b := file(l...)
	lengths := map[int]manifest.State{0: none(), len(file(l[0])): l[0], len(file(l[:2]...)): l[1]}
	for i := range len(b) {
		for bit := range 8 {
			other := []byte(b)
			other[i] ^= 1 << bit
			if ahead, ok := lengths[i]; ok {
				if s, n, err := manifest.Read(other); err == api.OK && (!same(s, ahead) || n != i) {
					t.Fatalf("%d, %d: %+v, %d", i, bit, s, n)
				}
				continue
			}
			corrupt(t, string(other))
		}
	}
}

func disk(t *testing.T, room int) *store.Disk {
	t.Helper()
	d, err := store.New(room)
	if err != api.OK {
		t.Fatal(err)
	}
	return d
}

func write(t *testing.T, d *store.Disk, name, b string) {
	t.Helper()
	if err := d.Write(name, []byte(b)); err != api.OK {
		t.Fatalf("%q of %d bytes: %d", name, len(b), err)
	}
}

// with is a disk with files that last.
func with(t *testing.T, room int, files map[string]string) *store.Disk {
	t.Helper()
	d := disk(t, room)
	for n, b := range files {
		write(t, d, n, b)
		d.Sync(n)
	}
	return d
}

// has tells whether a disk has just these files, and all of them lasts.
func has(t *testing.T, what string, d *store.Disk, files map[string]string) {
	t.Helper()
	var names []string
	for n, want := range files {
		names = append(names, n)
		if b, ok := d.Read(n); string(b) != want || !ok {
			t.Errorf("%s: %q has %q, %t, not %q", what, n, b, ok, want)
		}
	}
	slices.Sort(names)
	if l := d.Names(); !slices.Equal(l, names) || d.Loose() != 0 {
		t.Errorf("%s: files %q, not %q; %d loose", what, l, names, d.Loose())
	}
}

func loads(t *testing.T, d *store.Disk, want manifest.State, err api.Errno) {
	t.Helper()
	if s, e := manifest.Load(d, name); !same(s, want) || e != err {
		t.Errorf("load: %+v, %d, not %+v, %d", s, e, want, err)
	}
}

func saves(t *testing.T, d *store.Disk, s manifest.State, err api.Errno) {
	t.Helper()
	if e := manifest.Save(d, name, s); e != err {
		t.Errorf("save of %d, %d: %d, not %d", s.Gen, s.Applied, e, err)
	}
}

func TestLoad(t *testing.T) {
	l := states(5, 3)
	b := file(l...)
	for _, x := range []struct {
		b    string
		want manifest.State
		err  api.Errno
	}{
		{"", none(), api.OK}, {"\x80", none(), api.OK}, {b, l[2], api.OK}, {b + "\x05ab", l[2], api.OK},
		{b[:len(b)-1], l[1], api.OK}, {b + framed(""), manifest.State{}, api.ErrCorrupt},
		{b + file(l[2]), manifest.State{}, api.ErrCorrupt}, {many("\xff", 9), manifest.State{}, api.ErrCorrupt},
	} {
		files := map[string]string{name: x.b, aside: file(states(90, 2)...), "x": "x"}
		d := with(t, 10_000, files)
		loads(t, d, x.want, x.err)
		has(t, "load", d, files)
	}
	d := with(t, 1000, map[string]string{aside: b})
	loads(t, d, none(), api.OK)
	has(t, "load of none", d, map[string]string{aside: b})
	for _, n := range []string{"", many("x", 17), many("x", 1000), "\x00"} {
		if s, err := manifest.Load(d, n); !same(s, none()) || err != api.OK {
			t.Errorf("%q: %+v, %d", n, s, err)
		}
	}
	// Bytes that don't last count, too.
	write(t, d, name, file(l[0]))
	loads(t, d, l[0], api.OK)
}

func TestSave(t *testing.T) {
	for _, first := range []int{1, 2, 77, greatest - 9} {
		d, files := disk(t, 10_000), map[string]string{}
		for _, s := range states(first, 10) {
			saves(t, d, s, api.OK)
			files[name] += file(s)
			has(t, "save", d, files)
			loads(t, d, s, api.OK)
			d.Crash(0)
			loads(t, d, s, api.OK)
		}
	}
	for _, s := range right() {
		d := disk(t, 1000)
		saves(t, d, s, api.OK)
		has(t, "one", d, map[string]string{name: file(s)})
	}
	// Behind the last Gen none comes.
	d := with(t, 1000, map[string]string{name: file(state(greatest, 0, 1))})
	saves(t, d, state(greatest+1, 0, 1), api.ErrForm)
	saves(t, d, state(1, 0, 1), api.ErrForm)
	has(t, "last", d, map[string]string{name: file(state(greatest, 0, 1))})
}

// A file without bytes, and one whose only state is torn, have none: any is let.
func TestSaveTheFirst(t *testing.T) {
	for _, b := range []string{"", "\x80", file(state(4, 0, 1))[:7], "\x80\x80\x04" + many("x", 1000), "\x80\x80\x04" + many("x", enough-4)} {
		for _, gen := range []int{1, 4, 5, greatest} {
			d := with(t, 10_000, map[string]string{name: b})
			saves(t, d, state(gen, 0, 1), api.OK)
			has(t, "first", d, map[string]string{name: file(state(gen, 0, 1))})
		}
	}
}

// Files of other names stay, also the one that stands aside, where it isn't needed.
func TestSaveLeavesOthers(t *testing.T) {
	files := map[string]string{name: file(state(3, 0, 1)), aside: "aside", "r": "r", "r.m~~": "~", "x.m": file(state(9, 0, 1))}
	d := with(t, 1000, files)
	saves(t, d, state(4, 0, 1), api.OK)
	files[name] += file(state(4, 0, 1))
	has(t, "others", d, files)
	if err := manifest.Save(d, "x.m", state(10, 0, 1)); err != api.OK {
		t.Error(err)
	}
	files["x.m"] += file(state(10, 0, 1))
	has(t, "others", d, files)
}

// Of several errors the one that the chapter names first is told; the disk stays.
func TestSaveErrors(t *testing.T) {
	whole, bad := file(state(3, 0, 1), state(4, 0, 9, 1)), file(state(3, 0, 1))+framed("")
	for _, end := range []string{"", "\x80", "\x05abc"} {
		for _, x := range []struct {
			b    string
			s    manifest.State
			want api.Errno
		}{
			{whole, state(0, 0, 1), api.ErrForm},
			{whole, state(5, -1, 1), api.ErrForm},
			{whole, state(5, 0, 9, 9), api.ErrForm},
			{bad, state(5, 0, 9, 9), api.ErrForm},
			{bad, state(4, 0, 1), api.ErrCorrupt},
			{bad, state(9, 0, 1), api.ErrCorrupt},
			{whole, state(1, 0, 1), api.ErrForm},
			{whole, state(3, 0, 1), api.ErrForm},
			{whole, state(4, 0, 1), api.ErrForm},
			{whole, state(4, 0, 9, 1), api.ErrForm},
			{whole, state(6, 0, 1), api.ErrForm},
			{whole, state(5+256, 0, 1), api.ErrForm},
			{whole, state(greatest, 0, 1), api.ErrForm},
		} {
			files := map[string]string{name: x.b + end, aside: "aside"}
			for _, room := range []int{1000, len(x.b+end) + 5} {
				d := with(t, room, files)
				saves(t, d, x.s, x.want)
				has(t, "error", d, files)
			}
		}
	}
	for _, s := range wrong() {
		d := with(t, 1000, map[string]string{name: whole})
		saves(t, d, s, api.ErrForm)
		has(t, "wrong", d, map[string]string{name: whole})
		d = disk(t, 1000)
		saves(t, d, s, api.ErrForm)
		has(t, "wrong", d, nil)
	}
}

// sized is a manifest of just so many bytes, and its last state.
func sized(t *testing.T, size int) (string, manifest.State) {
	t.Helper()
	b, last := "", none()
	for size-len(b) > 300 {
		last = state(last.Gen+1, 0, most+1, upTo(most)...)
		b += file(last)
	}
	for len(b) < size {
		left := size - len(b)
		// Of two frames neither is shorter than one without tables.
		if left > 40 {
			left = 20
		} else if left > 20 {
			left -= 10
		}
		last = state(last.Gen+1, 0, most+1, upTo(left-len(file(state(1, 0, most+1))))...)
		b += file(last)
	}
	if len(b) != size {
		t.Fatal(len(b), size)
	}
	reads(t, b, last, size, api.OK)
	return b, last
}

// From 2,048 bytes on a manifest is begun anew.
func TestSaveAnew(t *testing.T) {
	for _, size := range []int{enough - 40, enough - 2, enough - 1, enough, enough + 1, enough + 30} {
		for _, left := range []string{"", "aside", file(states(9, 9)...)} {
			b, last := sized(t, size)
			files := map[string]string{name: b, "x": "x"}
			if left != "" {
				files[aside] = left
			}
			d := with(t, 10_000, files)
			next := state(last.Gen+1, 8, 9, 8)
			saves(t, d, next, api.OK)
			if size < enough {
				files[name] += file(next)
			} else {
				files[name] = file(next)
				delete(files, aside)
			}
			has(t, strconv.Itoa(size), d, files)
			loads(t, d, next, api.OK)
			d.Crash(0)
			loads(t, d, next, api.OK)
		}
	}
}

// The torn end goes, also where that is all there is; it counts for how many bytes
// the file has.
func TestSaveTorn(t *testing.T) {
	for _, end := range []string{"\x80", "\x05abc", "\x80\x80\x04" + many("x", 1000)} {
		for _, size := range []int{0, 30, 1000, enough - 1 - len(end), enough - len(end), enough + 1 - len(end), enough - 1, enough} {
			for _, left := range []string{"", "aside", file(states(9, 9)...)} {
				b, last := "", none()
				if size > 0 {
					b, last = sized(t, size)
				}
				files := map[string]string{name: b + end, "x": "x"}
				if left != "" {
					files[aside] = left
				}
				d := with(t, 10_000, files)
				next := state(last.Gen+1, 8, 9, 8)
				saves(t, d, next, api.OK)
				want := map[string]string{name: b + file(next), "x": "x"}
				if size+len(end) >= enough {
					want[name] = file(next)
				}
				has(t, strconv.Itoa(size), d, want)
				loads(t, d, next, api.OK)
			}
		}
	}
}

// A disk has room for the frame, and not for a byte less.
func TestSaveFull(t *testing.T) {
	next := state(9, 0, 9, upTo(8)...)
	frame := file(next)
	b := file(states(5, 4)...)
	for _, x := range []struct {
		b    string
		s    manifest.State
		room int // that is needed
	}{
		{"", next, len(frame)},
		{b, next, len(frame)},
	} {
		files := map[string]string{name: x.b, "x": "x"}
		size := len(x.b) + 1
		d := with(t, size+x.room-1, files)
		saves(t, d, x.s, api.ErrFull)
		has(t, "full", d, files)
		d = with(t, size+x.room, files)
		saves(t, d, x.s, api.OK)
		files[name] += file(x.s)
		has(t, "not full", d, files)
	}
	d := disk(t, len(frame)-1)
	saves(t, d, next, api.ErrFull)
	has(t, "nothing", d, nil)
	d = disk(t, len(frame))
	saves(t, d, next, api.OK)
	has(t, "something", d, map[string]string{name: frame})
	d = disk(t, 0)
	saves(t, d, next, api.ErrFull)
	loads(t, d, none(), api.OK)
}

// A manifest that is begun anew stays till the new one lasts: both have room.
func TestSaveAnewFull(t *testing.T) {
	b, last := sized(t, enough)
	next := state(last.Gen+1, 0, 9, upTo(8)...)
	frame := file(next)
	for _, end := range []string{"", "\x05abc"} {
		files := map[string]string{name: b + end}
		d := with(t, enough+len(end)+len(frame)-1, files)
		saves(t, d, next, api.ErrFull)
		has(t, "full", d, files)
		loads(t, d, last, api.OK)
		d = with(t, enough+len(end)+len(frame), files)
		saves(t, d, next, api.OK)
		has(t, "not full", d, map[string]string{name: frame})
		// What stood aside is taken away first, so its bytes are room.
		files[aside] = many("x", len(frame))
		d = with(t, enough+len(end)+len(frame), files)
		saves(t, d, next, api.OK)
		has(t, "aside", d, map[string]string{name: frame})
	}
}

// A torn end is taken off where all that is whole has room once more; what it took
// is room for the state.
func TestSaveTornFull(t *testing.T) {
	const end = "\x05abc"
	l := states(5, 4)
	b := file(l...)
	next := state(9, 0, 9, upTo(8)...)
	frame := file(next)
	files := map[string]string{name: b + end}
	size := len(b) + len(end)

	d := with(t, size+len(b)-1, files)
	saves(t, d, next, api.ErrFull)
	has(t, "no room for a copy", d, files)
	loads(t, d, l[3], api.OK)

	d = with(t, size+len(b), files)
	saves(t, d, next, api.OK)
	has(t, "room for a copy", d, map[string]string{name: b + frame})

	// The copy of what is short has room, but not the state.
	short := file(state(8, 0, 1))
	files = map[string]string{name: short + end}
	d = with(t, len(short)+len(frame)-1, files)
	saves(t, d, next, api.ErrFull)
	has(t, "no room for the state", d, map[string]string{name: short})
	loads(t, d, state(8, 0, 1), api.OK)
	saves(t, d, next, api.ErrFull)
	saves(t, d, state(9, 0, 1), api.OK)
	has(t, "a shorter one", d, map[string]string{name: short + file(state(9, 0, 1))})

	d = with(t, len(short)+len(frame), files)
	saves(t, d, next, api.OK)
	has(t, "room for the state", d, map[string]string{name: short + frame})

	files[aside] = many("x", len(b))
	d = with(t, len(short)+len(end)+len(b), files)
	saves(t, d, next, api.OK)
	has(t, "aside", d, map[string]string{name: short + frame})

	// Of nothing whole the copy takes no room.
	d = with(t, len(frame)-1, map[string]string{name: end})
	saves(t, d, next, api.ErrFull)
	has(t, "nothing whole", d, map[string]string{name: ""})
}

// A manifest's name is a file's; one of sixteen bytes has none that stands aside.
func TestNames(t *testing.T) {
	next := state(2, 0, 1)
	for _, n := range []string{"", many("x", 17), many("x", 1000)} {
		d := disk(t, 1000)
		if err := manifest.Save(d, n, next); err != api.ErrForm {
			t.Errorf("%q: %d", n, err)
		}
		has(t, "a name that is none", d, nil)
	}
	for _, n := range []string{"x", "\x00", "~", many("\xff", 15), many("x", 16)} {
		d := disk(t, 1000)
		if err := manifest.Save(d, n, next); err != api.OK {
			t.Errorf("%q: %d", n, err)
		}
		has(t, strconv.Quote(n), d, map[string]string{n: file(next)})
		if s, err := manifest.Load(d, n); !same(s, next) || err != api.OK {
			t.Errorf("%q: %+v, %d", n, s, err)
		}
	}
	b, last := sized(t, enough)
	for _, x := range []string{file(state(1, 0, 1)) + "\x80", b} {
		was := state(1, 0, 1)
		if x == b {
			was = last
		}
		next := state(was.Gen+1, 0, 1)
		d := with(t, 10_000, map[string]string{many("x", 15): x, many("x", 16): x})
		if err := manifest.Save(d, many("x", 15), next); err != api.OK {
			t.Error(err)
		}
		if s, err := manifest.Load(d, many("x", 15)); !same(s, next) || err != api.OK {
			t.Errorf("%+v, %d", s, err)
		}
		if err := manifest.Save(d, many("x", 16), next); err != api.ErrForm {
			t.Error(err)
		}
		if s, err := manifest.Load(d, many("x", 16)); !same(s, was) || err != api.OK {
			t.Errorf("%+v, %d", s, err)
		}
	}
}

// stepsOf are those of a Save, as the chapter tells them; was is what the manifest
// has.
func stepsOf(d *store.Disk, s manifest.State, was string) []func() {
	frame := []byte(file(s))
	_, size, _ := manifest.Read([]byte(was))
	var l []func()
	put := func(b []byte) {
		l = append(l,
			func() { d.Remove(aside) },
			func() { d.Write(aside, b) },
			func() { d.Sync(aside) },
			func() { d.Rename(aside, name) })
	}
	if len(was) >= enough {
		put(frame)
		return l
	}
	if size < len(was) {
		put([]byte(was)[:size])
	}
	return append(l, func() { d.Write(name, frame) }, func() { d.Sync(name) })
}

func do(l []func()) {
	for _, f := range l {
		f()
	}
}

// manifests are what one may have ahead of a Save: short and long ones, with and
// without a torn end.
func manifests(t *testing.T) []string {
	short := file(states(5, 3)...)
	long, _ := sized(t, enough+10)
	var l []string
	for _, b := range []string{"", short, long} {
		l = append(l, b, b+"\x80", b+"\x05abc")
	}
	return l
}

// laid is a disk with a manifest, and with something that a crash has left.
func laid(t *testing.T, was, left string) *store.Disk {
	files := map[string]string{name: was}
	if left != "" {
		files[aside] = left
	}
	return with(t, 10_000, files)
}

func TestSteps(t *testing.T) {
	for _, was := range manifests(t) {
		for _, left := range []string{"", "left"} {
			old, _, _ := manifest.Read([]byte(was))
			s := state(old.Gen+1, 5, 6, 3, 4)
			one, two := laid(t, was, left), laid(t, was, left)
			do(stepsOf(one, s, was))
			saves(t, two, s, api.OK)
			files := map[string]string{}
			for _, n := range one.Names() {
				b, _ := one.Read(n)
				files[n] = string(b)
			}
			has(t, "steps", two, files)
		}
	}
}

// Whatever is lost behind any step of a Save, either state is there, and the next
// one can be saved.
func TestCrash(t *testing.T) {
	for _, was := range manifests(t) {
		for _, left := range []string{"", "left"} {
			count := len(stepsOf(nil, state(1, 5, 6, 3, 4), was))
			for n := range count + 1 {
				for keep := -1; crash(t, was, left, n, keep); keep++ {
				}
				if t.Failed() {
					t.Fatalf("%q, step %d of %d", was, n, count)
				}
			}
		}
	}
}

// crash does some steps of a Save, and a crash that keeps some bytes; it tells
// whether there are more to be kept.
func crash(t *testing.T, was, left string, n, keep int) bool {
	old, _, _ := manifest.Read([]byte(was))
	s := state(old.Gen+1, 5, 6, 3, 4)
	d := laid(t, was, left)
	l := stepsOf(d, s, was)
	do(l[:n])
	more := keep < d.Loose()
	d.Crash(keep)
	got, err := manifest.Load(d, name)
	if err != api.OK || !same(got, old) && !same(got, s) || n == len(l) && !same(got, s) {
		t.Errorf("%d kept: %+v, %d", keep, got, err)
	}
	next := state(got.Gen+1, 6, 7, 4, 3)
	saves(t, d, next, api.OK)
	loads(t, d, next, api.OK)
	return more && !t.Failed()
}

// What other files lose, or keep, doesn't count.
func TestCrashAmongOthers(t *testing.T) {
	for _, keep := range []int{-1, 0, 3, 1000} {
		d := disk(t, 10_000)
		write(t, d, "a", "loose")
		last := none()
		for _, s := range states(1, 100) {
			saves(t, d, s, api.OK)
			write(t, d, "z", "x")
			if d.Loose() != 5+s.Gen {
				t.Fatal(d.Loose())
			}
			last = s
		}
		d.Crash(keep)
		loads(t, d, last, api.OK)
	}
}

// plain is a manifest told plainly: its bytes, whether what stands aside is there,
// and the last state.
type plain struct {
	b     string
	aside int // bytes; -1: it isn't there
	room  int // that is left
	last  manifest.State
	size  int
}

// move puts bytes aside, and in the manifest's place.
func (p *plain) move(b string) bool {
	if p.aside >= 0 {
		p.room += p.aside
		p.aside = -1
	}
	if len(b) > p.room {
		return false
	}
	p.room += len(p.b) - len(b)
	p.b = b
	return true
}

func (p *plain) save(s manifest.State) api.Errno {
	if !manifest.Right(s) || p.size > 0 && s.Gen != p.last.Gen+1 {
		return api.ErrForm
	}
	frame := file(s)
	if len(p.b) >= enough {
		if !p.move(frame) {
			return api.ErrFull
		}
		p.last, p.size = s, len(frame)
		return api.OK
	}
	if p.size < len(p.b) && !p.move(p.b[:p.size]) {
		return api.ErrFull
	}
	if len(frame) > p.room {
		return api.ErrFull
	}
	p.room -= len(frame)
	p.b += frame
	p.last, p.size = s, len(p.b)
	return api.OK
}

// draw is a state that may come next, or one that may not.
func draw(pick func(int) int, gen int) manifest.State {
	s := state(gen+1, pick(1000), 1+pick(200))
	for range pick(most + 2) {
		if n := pick(s.Next); n > 0 && !slices.Contains(s.Tables, n) {
			s.Tables = append(s.Tables, n)
		}
	}
	switch pick(12) {
	case 0:
		s.Gen = pick(300)
	case 1:
		s.Tables = append(s.Tables, pick(s.Next+1))
	case 2:
		s.Applied = -pick(2)
	}
	return s
}

// asTold does some steps with a disk and with a manifest told plainly.
func asTold(t *testing.T, steps int, pick func(int) int) {
	room := []int{0, 30, 300, 3000, 6000, 20_000}[pick(6)]
	d, p := disk(t, room), plain{aside: -1, room: room, last: none()}
	for range steps {
		switch pick(6) {
		case 0: // a torn state
			frame := file(draw(func(n int) int { return n / 2 }, p.last.Gen))
			n := 1 + pick(len(frame)-1)
			if p.size < len(p.b) || d.Write(name, []byte(frame[:n])) != api.OK {
				continue
			}
			d.Sync(name)
			p.b += frame[:n]
			p.room -= n
		case 1: // something stands aside
			n := pick(40)
			if d.Write(aside, make([]byte, n)) == api.OK {
				p.aside = max(p.aside, 0) + n
				p.room -= n
			}
		case 2:
			d.Sync(aside)
			d.Crash(pick(100))
		default:
			s := draw(pick, p.last.Gen)
			if got, want := manifest.Save(d, name, s), p.save(s); got != want {
				t.Fatalf("save of %+v behind %+v: %d, not %d", s, p.last, got, want)
			}
		}
		if b, _ := d.Read(name); string(b) != p.b {
			t.Fatalf("%q, not %q", b, p.b)
		}
		if b, ok := d.Read(aside); ok != (p.aside >= 0) || ok && len(b) != p.aside || d.Room() != p.room {
			t.Fatalf("aside %d, not %d; room %d, not %d", len(b), p.aside, d.Room(), p.room)
		}
		loads(t, d, p.last, api.OK)
	}
}

func TestAsTheChapterSays(t *testing.T) {
	for i := range 600 {
		asTold(t, 100, rand.New(rand.NewSource(int64(i))).Intn)
		if t.Failed() {
			return
		}
	}
}

// anyBytes tells of any bytes whether what is answered of them hangs together.
func anyBytes(t *testing.T, b []byte) {
	before := string(b)
	s, ok := manifest.Decode(b)
	own, is := manifest.Encode(s)
	if is != ok || ok && !bytes.Equal(own, b) || !ok && !same(s, manifest.State{}) {
		t.Errorf("%q: %+v, %t", b, s, ok)
	}
	last, size, err := manifest.Read(b)
	bodies, n, what := sum.All(b)
	want, sound := none(), what != sum.Bad
	for i, body := range bodies {
		x, ok := manifest.Decode(body)
		sound = sound && ok && (i == 0 || x.Gen == want.Gen+1)
		want = x
	}
	if !sound {
		want, n = manifest.State{}, 0
	}
	if sound != (err == api.OK) || !sound && err != api.ErrCorrupt || !same(last, want) || size != n {
		t.Errorf("%q: %+v, %d, %d, not %+v, %d", b, last, size, err, want, n)
	}
	d := with(t, great, map[string]string{name: before})
	loads(t, d, want, err)
	next := state(max(1, want.Gen+1), 0, 1)
	if sound && want.Gen == greatest {
		err = api.ErrForm
	}
	saves(t, d, next, err)
	if err == api.OK {
		want = next
	}
	if sound {
		loads(t, d, want, api.OK)
	}
	if string(b) != before {
		t.Errorf("%q is changed", before)
	}
}

func TestAnyBytes(t *testing.T) {
	r := rand.New(rand.NewSource(11))
	for range 20_000 {
		l := states(r.Intn(200), r.Intn(4))
		b := []byte(file(l...))
		for range r.Intn(4) {
			switch at := r.Intn(len(b) + 1); r.Intn(4) {
			case 0:
				b = b[:at]
			case 1:
				b = slices.Insert(b, at, byte(r.Int()))
			case 2:
				if at < len(b) {
					b[at] ^= 1 << r.Intn(8)
				}
			case 3:
				b = append(b, framed(numbers(r.Intn(200), r.Intn(3), r.Intn(5), r.Intn(3), r.Intn(4), r.Intn(4)))...)
			}
		}
		anyBytes(t, b)
		anyBytes(t, []byte(numbers(r.Intn(3), r.Intn(3), r.Intn(5), r.Intn(4), r.Intn(4), r.Intn(4))))
		if t.Failed() {
			return
		}
	}
}

func FuzzBytes(f *testing.F) {
	for _, s := range right() {
		f.Add([]byte(told(s)))
		f.Add([]byte(file(s)))
		f.Add([]byte(file(s, state(s.Gen+1, 0, 1)) + "\x80"))
	}
	f.Fuzz(func(t *testing.T, b []byte) { anyBytes(t, b) })
}

// Every call ends, and none panics.
func TestAnyArguments(t *testing.T) {
	ends := []int{math.MinInt, -1, 0, 1, 2, mostNext, mostNext + 1, greatest, greatest + 1, math.MaxInt}
	for _, gen := range ends {
		for _, applied := range ends {
			for _, next := range ends {
				for _, l := range [][]int{nil, ends, {1}, {math.MaxInt}, make([]int, 1000)} {
					s := state(gen, applied, next, l...)
					b, ok := manifest.Encode(s)
					if ok != manifest.Right(s) || ok && string(b) != told(s) || !ok && len(b) != 0 {
						t.Errorf("%+v: %q, %t", s, b, ok)
					}
					d, want := disk(t, 1000), api.ErrForm
					if ok {
						want = api.OK
					}
					saves(t, d, s, want)
					if !manifest.Same(s, s) {
						t.Errorf("%+v", s)
					}
				}
			}
		}
	}
	for _, n := range []string{"", "x", many("x", 16), many("x", 17), many("\xff", 1000)} {
		for _, b := range []string{"", "\x80", many("\xff", 5000), file(states(1, 200)...)} {
			for _, room := range []int{len(b), great} {
				d := disk(t, room)
				d.Write(n, []byte(b))
				manifest.Load(d, n)
				manifest.Save(d, n, state(1, 0, 1))
				manifest.Save(d, n, state(201, 0, 1))
				manifest.Save(d, n, manifest.State{})
			}
		}
	}
}

func TestMuch(t *testing.T) {
	b := many("\x01", 1<<24)
	decodes(t, b, manifest.State{}, false)
	corrupt(t, b)
	s := state(1, 0, mostNext, make([]int, 1<<24)...)
	if b, ok := manifest.Encode(s); len(b) != 0 || ok || manifest.Right(s) || !manifest.Same(s, s) {
		t.Error(len(b), ok)
	}
	// Many states are gone over once.
	l := states(1, 100_000)
	b = file(l...)
	reads(t, b, l[len(l)-1], len(b), api.OK)
}

// Of bytes that are none of a state no more is copied than a state has.
func TestMemory(t *testing.T) {
	b := []byte(many("\x01", 1<<24))
	var before, after runtime.MemStats
	runtime.ReadMemStats(&before)
	manifest.Decode(b)
	runtime.ReadMemStats(&after)
	if n := after.TotalAlloc - before.TotalAlloc; n > 1<<16 {
		t.Error(n)
	}
}

// full gives tables with spare room, and what all of that holds.
func full(l []int) ([]int, []int) {
	l = append(make([]int, 0, len(l)+4), l...)
	copy(l[len(l):cap(l)], []int{71, 72, 73, 74})
	return l, slices.Clone(l[:cap(l)])
}

func TestArgumentsStay(t *testing.T) {
	for _, s := range slices.Concat(right(), wrong()[:20]) {
		var before []int
		s.Tables, before = full(s.Tables)
		d := disk(t, 1000)
		manifest.Right(s)
		manifest.Same(s, s)
		manifest.Encode(s)
		ok := manifest.Save(d, name, s) == api.OK
		if !slices.Equal(s.Tables[:cap(s.Tables)], before) {
			t.Errorf("%d are changed", before)
		}
		was := slices.Clone(s.Tables)
		for i := range s.Tables {
			s.Tables[i] = -1
		}
		if ok {
			s.Tables = was
			loads(t, d, s, api.OK)
		}
	}
	b := []byte(file(states(1, 30)...) + "\x05abcdef")
	before := string(b)
	for i := range len(b) {
		manifest.Read(b[:i])
		manifest.Decode(b[:i])
	}
	if string(b) != before {
		t.Error("bytes are changed")
	}
}

// What stands behind the length of bytes isn't looked at.
func TestSpareRoomIsNotRead(t *testing.T) {
	b := []byte(told(right()[4]) + "\x01\x01")
	for i := range len(b) {
		s, ok := manifest.Decode(b[:i])
		again, is := manifest.Decode(bytes.Clone(b[:i]))
		if !same(s, again) || ok != is {
			t.Errorf("%d: %+v, %t", i, s, ok)
		}
	}
}

func TestAnswersAreNew(t *testing.T) {
	s := state(2, 3, 300, 299, 1, 127)
	one, _ := manifest.Encode(s)
	two, _ := manifest.Encode(s)
	for i := range one[:cap(one)] {
		one[:cap(one)][i] = 0xee
	}
	if string(two) != told(s) {
		t.Errorf("two answers share memory: %q", two)
	}
	b := []byte(told(s))
	d := with(t, 1000, map[string]string{name: file(s)})
	for _, ask := range []func() manifest.State{
		func() manifest.State { x, _ := manifest.Decode(b); return x },
		func() manifest.State { x, _, _ := manifest.Read([]byte(file(s))); return x },
		func() manifest.State { x, _ := manifest.Load(d, name); return x },
	} {
		x, y := ask(), ask()
		for i := range x.Tables[:cap(x.Tables)] {
			x.Tables[:cap(x.Tables)][i] = -1
		}
		if !same(y, s) || !same(ask(), s) || string(b) != told(s) {
			t.Errorf("what is answered shares memory: %+v", y)
		}
	}
}
