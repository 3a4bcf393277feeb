package store_test

import (
	"bytes"
	"maps"
	"math"
	"math/rand"
	"slices"
	"strconv"
	"strings"
	"testing"

	"joist/api"
	"joist/store"
)

const greatest = 1 << 24

func many(s string, n int) string { return strings.Repeat(s, n) }

func disk(t *testing.T, room int) *store.Disk {
	t.Helper()
	d, err := store.New(room)
	if d == nil || err != api.OK {
		t.Fatalf("New(%d): %v, %d", room, d, err)
	}
	return d
}

// answers holds an error against that which is asked for.
func answers(t *testing.T, got, want api.Errno) {
	t.Helper()
	if got != want {
		t.Errorf("%d, not %d", got, want)
	}
}

func write(t *testing.T, d *store.Disk, name, b string) {
	t.Helper()
	answers(t, d.Write(name, []byte(b)), api.OK)
}

// has holds a disk against its files, its room, and how many bytes don't last.
func has(t *testing.T, d *store.Disk, room, loose int, files map[string]string) {
	t.Helper()
	names := slices.Sorted(maps.Keys(files))
	if l := d.Names(); !slices.Equal(l, names) {
		t.Errorf("Names: %q, not %q", l, names)
	}
	size := 0
	for _, name := range names {
		if b, ok := d.Read(name); string(b) != files[name] || !ok {
			t.Errorf("Read(%q): %.40q, %v, not %.40q", name, b, ok, files[name])
		}
		size += len(files[name])
	}
	if d.Size() != size || d.Room() != room-size || d.Loose() != loose {
		t.Errorf("%d, %d, %d bytes, not %d, %d, %d", d.Size(), d.Room(), d.Loose(), size, room-size, loose)
	}
}

func none(t *testing.T, d *store.Disk, name string) {
	t.Helper()
	if b, ok := d.Read(name); len(b) != 0 || ok {
		t.Errorf("Read(%.40q): %.40q, %v", name, b, ok)
	}
}

// wrong are no names.
func wrong() []string {
	return []string{"", many("x", 17), many("\x00", 17), many("x", 18), many("x", 256), many("x", 1<<16+1), many("\u00e4", 9)}
}

// right are names: each of the edges, and any bytes.
func right() []string {
	return []string{"x", "\x00", "\xff", " ", "/", "..", "a/b", "x\x00", "\xff\xfe", many("x", 15), many("x", 16), many("\x00", 16), many("\xff", 16), many("\u00e4", 8)}
}

func TestNew(t *testing.T) {
	for _, room := range []int{math.MinInt, -greatest, -1, greatest + 1, 1 << 32, math.MaxInt} {
		if d, err := store.New(room); d != nil || err != api.ErrRange {
			t.Errorf("New(%d): %v, %d", room, d, err)
		}
	}
	for _, room := range []int{0, 1, 2, 100, greatest - 1, greatest} {
		has(t, disk(t, room), room, 0, nil)
	}
	a, b := disk(t, 10), disk(t, 10)
	write(t, a, "x", "ab")
	has(t, b, 10, 0, nil)
}

func TestWrite(t *testing.T) {
	d := disk(t, 100)
	write(t, d, "x", "ab")
	has(t, d, 100, 2, map[string]string{"x": "ab"})
	write(t, d, "y", "cd")
	write(t, d, "x", "ef")
	write(t, d, "x", "")
	answers(t, d.Write("x", nil), api.OK)
	has(t, d, 100, 6, map[string]string{"x": "abef", "y": "cd"})
	answers(t, d.Write("e", nil), api.OK)
	answers(t, d.Write("f", []byte{}), api.OK)
	has(t, d, 100, 6, map[string]string{"e": "", "f": "", "x": "abef", "y": "cd"})
	write(t, d, "e", "\x00\xff")
	has(t, d, 100, 8, map[string]string{"e": "\x00\xff", "f": "", "x": "abef", "y": "cd"})
}

func TestNames(t *testing.T) {
	for _, name := range wrong() {
		d := disk(t, 10)
		answers(t, d.Write(name, nil), api.ErrForm)
		answers(t, d.Write(name, []byte("a")), api.ErrForm)
		answers(t, d.Write(name, []byte("more than there may be")), api.ErrForm)
		answers(t, d.Sync(name), api.ErrNone)
		answers(t, d.Remove(name), api.ErrNone)
		answers(t, d.Rename(name, "x"), api.ErrNone)
		answers(t, d.Rename(name, name), api.ErrForm)
		answers(t, d.Rename("x", name), api.ErrForm)
		write(t, d, "x", "a")
		answers(t, d.Rename("x", name), api.ErrForm)
		none(t, d, name)
		has(t, d, 10, 1, map[string]string{"x": "a"})
	}
	d := disk(t, 1000)
	files := map[string]string{}
	for i, name := range right() {
		files[name] = strconv.Itoa(i)
		write(t, d, name, files[name])
		answers(t, d.Sync(name), api.OK)
	}
	has(t, d, 1000, 0, files)
	for _, name := range right() {
		d := disk(t, 10)
		write(t, d, "a", "b")
		answers(t, d.Rename("a", name), api.OK)
		has(t, d, 10, 1, map[string]string{name: "b"})
		answers(t, d.Remove(name), api.OK)
		has(t, d, 10, 0, nil)
	}
}

// The names stand byte by byte, whatever runes they are.
func TestNamesInOrder(t *testing.T) {
	want := []string{"\x00", "\x00\x00", "A", "Z", "a", "a\x00", "a0", "a00", "a10", "a9", "aa", "b", "\u00e4", "\u20ac", "\U0001f600", "\xfe", "\xff"}
	for i := range want {
		d := disk(t, 0)
		for k := range want {
			write(t, d, want[(i+k*5)%len(want)], "")
		}
		if l := d.Names(); !slices.Equal(l, want) {
			t.Errorf("%q, not %q", l, want)
		}
	}
}

func TestRoom(t *testing.T) {
	d := disk(t, 5)
	write(t, d, "x", "abc")
	answers(t, d.Write("x", []byte("def")), api.ErrFull)
	answers(t, d.Write("y", []byte("def")), api.ErrFull)
	has(t, d, 5, 3, map[string]string{"x": "abc"})
	write(t, d, "y", "de")
	answers(t, d.Write("x", []byte("f")), api.ErrFull)
	answers(t, d.Write("z", []byte("f")), api.ErrFull)
	// What has no bytes needs no room.
	write(t, d, "x", "")
	write(t, d, "z", "")
	has(t, d, 5, 5, map[string]string{"x": "abc", "y": "de", "z": ""})
	answers(t, d.Remove("y"), api.OK)
	write(t, d, "z", "gh")
	answers(t, d.Write("z", []byte("i")), api.ErrFull)
	answers(t, d.Rename("z", "x"), api.OK)
	has(t, d, 5, 2, map[string]string{"x": "gh"})
	answers(t, d.Write("x", []byte("ijkl")), api.ErrFull)
	write(t, d, "x", "ijk")
	d.Crash(3)
	has(t, d, 5, 0, map[string]string{"x": "ghi"})
	answers(t, d.Write("y", []byte("jkl")), api.ErrFull)
	write(t, d, "y", "jk")
	has(t, d, 5, 2, map[string]string{"x": "ghi", "y": "jk"})

	d = disk(t, 0)
	answers(t, d.Write("x", []byte("a")), api.ErrFull)
	has(t, d, 0, 0, nil)
	write(t, d, "x", "")
	has(t, d, 0, 0, map[string]string{"x": ""})

	d = disk(t, greatest)
	whole := many("x", greatest)
	answers(t, d.Write("x", []byte(whole+"y")), api.ErrFull)
	write(t, d, "x", whole)
	answers(t, d.Write("y", []byte("y")), api.ErrFull)
	has(t, d, greatest, greatest, map[string]string{"x": whole})
}

func TestSync(t *testing.T) {
	d := disk(t, 100)
	answers(t, d.Sync("x"), api.ErrNone)
	write(t, d, "x", "ab")
	write(t, d, "y", "cd")
	answers(t, d.Sync("z"), api.ErrNone)
	answers(t, d.Sync("x"), api.OK)
	has(t, d, 100, 2, map[string]string{"x": "ab", "y": "cd"})
	write(t, d, "x", "ef")
	has(t, d, 100, 4, map[string]string{"x": "abef", "y": "cd"})
	answers(t, d.Sync("x"), api.OK)
	answers(t, d.Sync("x"), api.OK)
	has(t, d, 100, 2, map[string]string{"x": "abef", "y": "cd"})
	write(t, d, "x", "gh")
	d.Crash(0)
	has(t, d, 100, 0, map[string]string{"x": "abef"})
	// What is lost of a file leaves those of its bytes that lasted, and more can
	// stand behind them.
	write(t, d, "x", "ij")
	answers(t, d.Sync("x"), api.OK)
	d.Crash(0)
	has(t, d, 100, 0, map[string]string{"x": "abefij"})
}

func TestRemove(t *testing.T) {
	d := disk(t, 100)
	answers(t, d.Remove("x"), api.ErrNone)
	write(t, d, "x", "ab")
	write(t, d, "y", "cd")
	answers(t, d.Sync("y"), api.OK)
	write(t, d, "y", "ef")
	answers(t, d.Remove("z"), api.ErrNone)
	answers(t, d.Remove("y"), api.OK)
	has(t, d, 100, 2, map[string]string{"x": "ab"})
	none(t, d, "y")
	answers(t, d.Remove("y"), api.ErrNone)
	answers(t, d.Sync("y"), api.ErrNone)
	answers(t, d.Rename("y", "x"), api.ErrNone)
	has(t, d, 100, 2, map[string]string{"x": "ab"})
	// What was synced under the name isn't the new file's, nor what didn't last.
	write(t, d, "y", "g")
	has(t, d, 100, 3, map[string]string{"x": "ab", "y": "g"})
	d.Crash(2)
	has(t, d, 100, 0, map[string]string{"x": "ab"})
}

// That a file was taken away lasts at once.
func TestRemoveLasts(t *testing.T) {
	d := disk(t, 100)
	write(t, d, "x", "ab")
	answers(t, d.Sync("x"), api.OK)
	answers(t, d.Remove("x"), api.OK)
	d.Crash(0)
	has(t, d, 100, 0, nil)

	// What doesn't last of a file that isn't there doesn't count in a crash.
	write(t, d, "x", "ab")
	write(t, d, "y", "cd")
	answers(t, d.Remove("x"), api.OK)
	d.Crash(1)
	has(t, d, 100, 0, map[string]string{"y": "c"})
}

func TestRename(t *testing.T) {
	d := disk(t, 100)
	answers(t, d.Rename("x", "y"), api.ErrNone)
	answers(t, d.Rename("x", "x"), api.ErrNone)
	write(t, d, "x", "ab")
	answers(t, d.Rename("y", "x"), api.ErrNone)
	answers(t, d.Rename("x", "y"), api.OK)
	has(t, d, 100, 2, map[string]string{"y": "ab"})
	none(t, d, "x")
	answers(t, d.Rename("x", "y"), api.ErrNone)
	write(t, d, "x", "cde")
	answers(t, d.Sync("y"), api.OK)
	answers(t, d.Rename("x", "y"), api.OK)
	has(t, d, 100, 3, map[string]string{"y": "cde"})
	answers(t, d.Rename("y", "y"), api.OK)
	has(t, d, 100, 3, map[string]string{"y": "cde"})
	write(t, d, "y", "f")
	has(t, d, 100, 4, map[string]string{"y": "cdef"})
}

// That a file was called otherwise lasts at once; what didn't last of it doesn't
// last under its new name.
func TestRenameLasts(t *testing.T) {
	for keep, want := range []string{"ab", "abc", "abcd", "abcd"} {
		d := disk(t, 100)
		write(t, d, "x", "ab")
		answers(t, d.Sync("x"), api.OK)
		write(t, d, "x", "cd")
		answers(t, d.Rename("x", "y"), api.OK)
		has(t, d, 100, 2, map[string]string{"y": "abcd"})
		d.Crash(keep)
		has(t, d, 100, 0, map[string]string{"y": want})
	}

	// Another one with that name is gone with all that didn't last of it.
	d := disk(t, 100)
	write(t, d, "y", "ab")
	write(t, d, "x", "cd")
	answers(t, d.Rename("x", "y"), api.OK)
	has(t, d, 100, 2, map[string]string{"y": "cd"})
	d.Crash(1)
	has(t, d, 100, 0, map[string]string{"y": "c"})

	// The order is that of the writes, not of the names.
	d = disk(t, 100)
	write(t, d, "x", "ab")
	write(t, d, "y", "cd")
	answers(t, d.Rename("x", "z"), api.OK)
	write(t, d, "x", "ef")
	write(t, d, "z", "gh")
	d.Crash(7)
	has(t, d, 100, 0, map[string]string{"z": "abg", "y": "cd", "x": "ef"})
}

func TestCrash(t *testing.T) {
	for keep, want := range []map[string]string{
		{},
		{"x": "a"},
		{"x": "ab"},
		{"x": "ab", "y": "c"},
		{"x": "ab", "y": "cd"},
		{"x": "abe", "y": "cd"},
		{"x": "abef", "y": "cd"},
		{"x": "abef", "y": "cdg"},
		{"x": "abef", "y": "cdg"},
	} {
		d := disk(t, 100)
		write(t, d, "x", "ab")
		write(t, d, "y", "cd")
		write(t, d, "x", "e")
		write(t, d, "x", "")
		write(t, d, "x", "f")
		write(t, d, "y", "g")
		d.Crash(keep)
		has(t, d, 100, 0, want)
		// What is there behind a crash lasts.
		d.Crash(0)
		has(t, d, 100, 0, want)
	}
}

func TestCrashOfAnyNumber(t *testing.T) {
	for _, keep := range []int{math.MinInt, -1, 0} {
		d := disk(t, 100)
		d.Crash(keep)
		write(t, d, "x", "ab")
		answers(t, d.Sync("x"), api.OK)
		write(t, d, "x", "cd")
		write(t, d, "y", "ef")
		d.Crash(keep)
		has(t, d, 100, 0, map[string]string{"x": "ab"})
	}
	for _, keep := range []int{4, 5, 1 << 32, math.MaxInt} {
		d := disk(t, 100)
		d.Crash(keep)
		write(t, d, "x", "ab")
		answers(t, d.Sync("x"), api.OK)
		write(t, d, "x", "cd")
		write(t, d, "y", "ef")
		d.Crash(keep)
		has(t, d, 100, 0, map[string]string{"x": "abcd", "y": "ef"})
	}
}

// What was synced isn't counted, and doesn't come ahead of what wasn't.
func TestCrashPassesOverWhatLasts(t *testing.T) {
	d := disk(t, 100)
	write(t, d, "x", "ab")
	write(t, d, "y", "cd")
	write(t, d, "x", "ef")
	answers(t, d.Sync("x"), api.OK)
	write(t, d, "x", "gh")
	write(t, d, "y", "ij")
	d.Crash(3)
	has(t, d, 100, 0, map[string]string{"x": "abefg", "y": "cd"})
}

func TestWhichFilesStay(t *testing.T) {
	for _, f := range []struct {
		name string
		do   func(d *store.Disk)
		keep int
		want map[string]string
	}{
		{"made empty", func(d *store.Disk) { d.Write("x", nil) }, 9, nil},
		{"made empty, often", func(d *store.Disk) { d.Write("x", nil); d.Write("x", nil) }, 9, nil},
		{"made empty, then written, lost", func(d *store.Disk) { d.Write("x", nil); d.Write("x", []byte("a")) }, 0, nil},
		{"made empty, then written", func(d *store.Disk) { d.Write("x", nil); d.Write("x", []byte("a")) }, 1, map[string]string{"x": "a"}},
		{"made empty, synced", func(d *store.Disk) { d.Write("x", nil); d.Sync("x") }, 0, map[string]string{"x": ""}},
		{"synced, then written", func(d *store.Disk) { d.Write("x", nil); d.Sync("x"); d.Write("x", []byte("a")) }, 0, map[string]string{"x": ""}},
		{"written, lost", func(d *store.Disk) { d.Write("x", []byte("a")) }, 0, nil},
		{"called otherwise, empty", func(d *store.Disk) { d.Write("x", nil); d.Rename("x", "y") }, 0, map[string]string{"y": ""}},
		{"called otherwise, lost", func(d *store.Disk) { d.Write("x", []byte("a")); d.Rename("x", "y") }, 0, map[string]string{"y": ""}},
		{"called so again, empty", func(d *store.Disk) { d.Write("x", nil); d.Rename("x", "x") }, 0, map[string]string{"x": ""}},
		{"called so again, lost", func(d *store.Disk) { d.Write("x", []byte("a")); d.Rename("x", "x") }, 0, map[string]string{"x": ""}},
		{"called otherwise, and back", func(d *store.Disk) { d.Write("x", nil); d.Rename("x", "y"); d.Rename("y", "x") }, 0, map[string]string{"x": ""}},
		{"called otherwise, made anew", func(d *store.Disk) { d.Write("x", nil); d.Rename("x", "y"); d.Write("x", []byte("a")) }, 0, map[string]string{"y": ""}},
		{"called as one that stays", func(d *store.Disk) { d.Write("x", nil); d.Write("y", []byte("a")); d.Sync("y"); d.Rename("x", "y") }, 0, map[string]string{"y": ""}},
		{"not called so", func(d *store.Disk) { d.Write("x", nil); d.Rename("x", "") }, 0, nil},
		{"taken away, made anew", func(d *store.Disk) { d.Write("x", nil); d.Sync("x"); d.Remove("x"); d.Write("x", nil) }, 0, nil},
		{"called otherwise, taken away, made anew", func(d *store.Disk) { d.Write("x", nil); d.Rename("x", "y"); d.Remove("y"); d.Write("y", nil) }, 0, nil},
		{"gone, and made anew", func(d *store.Disk) { d.Write("x", []byte("a")); d.Crash(0); d.Write("x", []byte("b")) }, 0, nil},
		{"lasting in part, then written", func(d *store.Disk) { d.Write("x", []byte("ab")); d.Crash(1); d.Write("x", []byte("c")) }, 0, map[string]string{"x": "a"}},
		{"others lost alone", func(d *store.Disk) { d.Write("x", []byte("a")); d.Write("y", []byte("b")) }, 1, map[string]string{"x": "a"}},
	} {
		t.Run(f.name, func(t *testing.T) {
			d := disk(t, 100)
			f.do(d)
			d.Crash(f.keep)
			has(t, d, 100, 0, f.want)
			d.Crash(f.keep)
			has(t, d, 100, 0, f.want)
		})
	}
}

// byByte is a disk as the chapter tells it, with each byte for itself.
type byByte struct {
	room  int
	files map[string]*plain
	now   int
}

type plain struct {
	bytes []one
	stays bool
}

type one struct {
	b     byte
	when  int
	lasts bool
}

func (m *byByte) each(f func(x *one)) {
	for _, p := range m.files {
		for i := range p.bytes {
			f(&p.bytes[i])
		}
	}
}

func (m *byByte) size() (all, loose int) {
	m.each(func(x *one) {
		all++
		if !x.lasts {
			loose++
		}
	})
	return all, loose
}

func (m *byByte) write(name string, b []byte) api.Errno {
	if len(name) == 0 || len(name) > 16 {
		return api.ErrForm
	}
	if all, _ := m.size(); all+len(b) > m.room {
		return api.ErrFull
	}
	if m.files[name] == nil {
		m.files[name] = &plain{}
	}
	for _, x := range b {
		m.now++
		m.files[name].bytes = append(m.files[name].bytes, one{b: x, when: m.now})
	}
	return api.OK
}

func (m *byByte) sync(name string) api.Errno {
	p := m.files[name]
	if p == nil {
		return api.ErrNone
	}
	for i := range p.bytes {
		p.bytes[i].lasts = true
	}
	p.stays = true
	return api.OK
}

func (m *byByte) remove(name string) api.Errno {
	if m.files[name] == nil {
		return api.ErrNone
	}
	delete(m.files, name)
	return api.OK
}

func (m *byByte) rename(from, to string) api.Errno {
	if len(to) == 0 || len(to) > 16 {
		return api.ErrForm
	}
	p := m.files[from]
	if p == nil {
		return api.ErrNone
	}
	delete(m.files, from)
	m.files[to] = p
	p.stays = true
	return api.OK
}

func (m *byByte) crash(keep int) {
	var when []int
	m.each(func(x *one) {
		if !x.lasts {
			when = append(when, x.when)
		}
	})
	slices.Sort(when)
	when = when[:max(0, min(keep, len(when)))]
	m.each(func(x *one) {
		if slices.Contains(when, x.when) {
			x.lasts = true
		}
	})
	for name, p := range m.files {
		p.bytes = slices.DeleteFunc(p.bytes, func(x one) bool { return !x.lasts })
		if len(p.bytes) == 0 && !p.stays {
			delete(m.files, name)
		}
	}
}

func (m *byByte) holds(t *testing.T, d *store.Disk) {
	t.Helper()
	files := map[string]string{}
	for name, p := range m.files {
		var b []byte
		for _, x := range p.bytes {
			b = append(b, x.b)
		}
		files[name] = string(b)
	}
	_, loose := m.size()
	has(t, d, m.room, loose, files)
}

// step does one thing to both; which one is told by the bytes.
func step(t *testing.T, m *byByte, d *store.Disk, what, which, how byte) {
	t.Helper()
	names := []string{"a", "b", "c", "d~", "", many("x", 16), many("x", 17), "\xff"}
	name, other := names[which%8], names[which/8%8]
	switch what % 16 {
	case 0, 1, 2, 3, 4, 5, 6, 7:
		b := bytes.Repeat([]byte{what ^ how}, int(how%8))
		answers(t, d.Write(name, b), m.write(name, b))
	case 8, 9:
		answers(t, d.Sync(name), m.sync(name))
	case 10:
		answers(t, d.Remove(name), m.remove(name))
	case 11, 12, 13:
		answers(t, d.Rename(name, other), m.rename(name, other))
	default:
		keep := int(how%32) - 4
		d.Crash(keep)
		m.crash(keep)
	}
	m.holds(t, d)
}

func TestAsByByte(t *testing.T) {
	r := rand.New(rand.NewSource(5))
	for _, room := range []int{0, 1, 7, 30, 100, 1000} {
		for range 100 {
			m, d := &byByte{room: room, files: map[string]*plain{}}, disk(t, room)
			for range 60 {
				step(t, m, d, byte(r.Int()), byte(r.Int()), byte(r.Int()))
				if t.Failed() {
					return
				}
			}
		}
	}
}

func FuzzAsByByte(f *testing.F) {
	f.Add(50, []byte("\x00\x00\x07\x00\x01\x03\x08\x00\x00\x00\x00\x02\x0b\x08\x00\x0f\x00\x06"))
	f.Fuzz(func(t *testing.T, room int, steps []byte) {
		room = max(0, min(room, 1000))
		m, d := &byByte{room: room, files: map[string]*plain{}}, disk(t, room)
		for s := range slices.Chunk(steps[:min(len(steps), 300)/3*3], 3) {
			step(t, m, d, s[0], s[1], s[2])
		}
	})
}

// Many small writes, to many files, don't take a time by each for all of them.
func TestManyWrites(t *testing.T) {
	const count = 1 << 17
	d := disk(t, greatest)
	for i := range count {
		write(t, d, strconv.Itoa(i), "a")
		write(t, d, "all", "b")
	}
	if d.Size() != 2*count || d.Loose() != 2*count {
		t.Error(d.Size(), d.Loose())
	}
	d.Crash(count)
	if d.Size() != count || d.Loose() != 0 || len(d.Names()) != count/2+1 {
		t.Error(d.Size(), d.Loose(), len(d.Names()))
	}
	if b, ok := d.Read("all"); len(b) != count/2 || !ok {
		t.Error(len(b), ok)
	}
}

// full gives bytes with spare room, and what all of that holds.
func full(s string) ([]byte, string) {
	b := append(make([]byte, 0, len(s)+8), s...)
	copy(b[len(b):cap(b)], "reserved")
	return b, string(b[:cap(b)])
}

// spoil writes over a list and its spare room.
func spoil(b []byte) {
	b = b[:cap(b)]
	for i := range b {
		b[i] = 0xee
	}
}

func TestArgumentsStayAndAreNotKept(t *testing.T) {
	d := disk(t, 1000)
	for _, s := range []string{"", "ab", many("c", 100), "d"} {
		b, before := full(s)
		answers(t, d.Write("x", b), api.OK)
		answers(t, d.Write("y", b), api.OK)
		write(t, d, "x", ".")
		d.Sync("x")
		d.Crash(1 << 20)
		if string(b[:cap(b)]) != before {
			t.Errorf("%q is changed", s)
		}
		spoil(b)
	}
	has(t, d, 1000, 0, map[string]string{"x": ".ab." + many("c", 100) + ".d.", "y": "ab" + many("c", 100) + "d"})
}

func TestAnswersAreNew(t *testing.T) {
	for _, s := range []string{"", "a", "abcdefgh", many("x", 100)} {
		d := disk(t, 1000)
		write(t, d, "x", s)
		write(t, d, "x", s)
		answers(t, d.Sync("x"), api.OK)
		one, _ := d.Read("x")
		two, _ := d.Read("x")
		spoil(one)
		if string(two) != s+s {
			t.Errorf("two answers share memory: %q", two)
		}
		_ = append(two, "spare"...)
		write(t, d, "x", "end")
		has(t, d, 1000, 3, map[string]string{"x": s + s + "end"})
		// A crash brings back what was cut off into no answer.
		three, _ := d.Read("x")
		d.Crash(0)
		write(t, d, "x", "END")
		if string(three) != s+s+"end" {
			t.Errorf("an answer is changed: %q", three)
		}
		has(t, d, 1000, 3, map[string]string{"x": s + s + "END"})
	}
	d := disk(t, 10)
	write(t, d, "x", "a")
	write(t, d, "y", "b")
	l := d.Names()
	l[0], l[1] = "z", "z"
	_ = append(l[:1], "u", "v")
	has(t, d, 10, 2, map[string]string{"x": "a", "y": "b"})
}
