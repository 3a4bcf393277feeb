package sum_test

import (
	"bytes"
	"math/rand"
	"slices"
	"strings"
	"testing"

	"joist/codec"
	"joist/sum"
)

func many(s string, n int) string { return strings.Repeat(s, n) }

// told is the sum as the chapter tells it, a byte at a time.
func told(b string) int {
	one, two := 1, 0
	for i := range len(b) {
		one = (one + int(b[i])) % 65521
		two = (two + one) % 65521
	}
	return two*65536 + one
}

// framed is a frame as the chapter tells it, but of any length.
func framed(b string) string {
	s := told(b)
	seal := []byte{byte(s / (1 << 24)), byte(s / (1 << 16) % 256), byte(s / (1 << 8) % 256), byte(s % 256)}
	return string(codec.Num(len(b))) + b + string(seal)
}

// bodies are what frames may have: what looks like other things, and each edge
// of the length and of the number that tells it, with its neighbours.
func bodies() []string {
	l := []string{"", "a", "\x00", "\xff", "abc", "\x80\x80", many("\xff", 20), framed(""), framed("a"), framed("a") + framed("b")}
	for _, n := range []int{126, 127, 128, 129, 255, 256, 4095, 4096, 4097, 16383, 16384, 65535, 65536} {
		l = append(l, many("\x00", n), many("\xff", n), many("abcdefg", n)[:n])
	}
	return l
}

func TestConstants(t *testing.T) {
	if sum.Whole != 0 || sum.Torn != 1 || sum.Bad != 2 || sum.MaxFrame != 65536 {
		t.Error(sum.Whole, sum.Torn, sum.Bad, sum.MaxFrame)
	}
}

func TestSum(t *testing.T) {
	for _, f := range []struct {
		b    string
		want int
	}{
		{"", 1},
		{"\x00", 0x00010001},
		{"a", 0x00620062},
		{"\xff", 0x01000100},
		{"\x00\x00", 0x00020001},
		{"ab", 0x012600c4},
		{"ba", 0x012700c4},
		{"Wikipedia", 0x11e60398},
		{many("\xff", 256) + "\xef", 0x07fffff0},
		{many("\xff", 256) + "\xf0", 0x08000000},
		{many("\x00", 65520), 0xfff00001},
		{many("\x00", 65521), 0x00000001},
		{many("\x00", 65522), 0x00010001},
		{many("\xff", 4096), 0x8161f0e2},
		{many("\xff", 4097), 0x7351f1e1},
		{many("\xff", 65536), 0x77970ef2},
		{many("\xff", 1000000), 0x3843e1be},
	} {
		if s := sum.Sum([]byte(f.b)); s != f.want || s != told(f.b) {
			t.Errorf("Sum of %.20q, %d bytes: %#x, not %#x", f.b, len(f.b), s, f.want)
		}
	}
	if s := sum.Sum(nil); s != 1 {
		t.Errorf("Sum(nil): %d", s)
	}
	r := rand.New(rand.NewSource(4))
	for n := range 300 {
		b := make([]byte, n*n)
		r.Read(b)
		if s := sum.Sum(b); s != told(string(b)) {
			t.Errorf("%d bytes: %#x, not %#x", len(b), s, told(string(b)))
		}
	}
}

func TestFrame(t *testing.T) {
	for _, f := range []struct{ b, want string }{
		{"", "\x00\x00\x00\x00\x01"},
		{"a", "\x01a\x00b\x00b"},
		{"ab", "\x02ab\x01\x26\x00\xc4"},
		{many("\xff", 256) + "\xf0", "\x81\x02" + many("\xff", 256) + "\xf0\x08\x00\x00\x00"},
		{many("\x00", 65520), "\xf0\xff\x03" + many("\x00", 65520) + "\xff\xf0\x00\x01"},
		{many("\xff", 65536), "\x80\x80\x04" + many("\xff", 65536) + "\x77\x97\x0e\xf2"},
	} {
		if b, ok := sum.Frame([]byte(f.b)); string(b) != f.want || !ok {
			t.Errorf("Frame of %.20q, %d bytes: %.40q, %v", f.b, len(f.b), b, ok)
		}
	}
	for _, s := range bodies() {
		if b, ok := sum.Frame([]byte(s)); string(b) != framed(s) || !ok {
			t.Errorf("Frame of %.20q, %d bytes: %.40q, %v", s, len(s), b, ok)
		}
	}
	if b, ok := sum.Frame(nil); string(b) != framed("") || !ok {
		t.Errorf("Frame(nil): %q, %v", b, ok)
	}
	for _, n := range []int{65537, 65538, 65540, 70000, 1 << 20} {
		if b, ok := sum.Frame(make([]byte, n)); len(b) != 0 || ok {
			t.Errorf("Frame of %d bytes: %.40q, %v", n, b, ok)
		}
	}
}

// stands holds what Next and All answer of bytes that begin with no frame.
func stands(t *testing.T, b string, kind int) {
	t.Helper()
	if body, rest, k := sum.Next([]byte(b)); len(body) != 0 || len(rest) != 0 || k != kind {
		t.Errorf("Next of %.40q, %d bytes: %.40q, %.40q, %d, not %d", b, len(b), body, rest, k, kind)
	}
	if b == "" {
		kind = sum.Whole
	}
	if l, n, k := sum.All([]byte(b)); len(l) != 0 || n != 0 || k != kind {
		t.Errorf("All of %.40q, %d bytes: %.40q, %d, %d, not %d", b, len(b), l, n, k, kind)
	}
}

func TestNextWhole(t *testing.T) {
	for _, s := range bodies() {
		for _, rest := range []string{"", "\x00", "\x80", "rest", framed("b"), many("\xff", 100)} {
			b := framed(s) + rest
			if body, r, k := sum.Next([]byte(b)); string(body) != s || string(r) != rest || k != sum.Whole {
				t.Errorf("Next of %.40q, %d bytes: %.40q, %.40q, %d", b, len(b), body, r, k)
			}
		}
	}
}

func TestNextTorn(t *testing.T) {
	stands(t, "", sum.Torn)
	if body, rest, k := sum.Next(nil); len(body) != 0 || len(rest) != 0 || k != sum.Torn {
		t.Error(body, rest, k)
	}
	for n := 1; n <= 8; n++ {
		stands(t, many("\x80", n), sum.Torn)
		stands(t, many("\xff", n), sum.Torn)
	}
	for _, b := range []string{
		"\x00", "\x00\x00", "\x00\xff\xff\xff", "\x01", "\x01a", "\x01a\xff\xff\xff", "\x7f", "\x80\x01", "\xff\x7f",
		"\x01a\x00b\x00", "\x02ab\x01\x26\x00", "\x02a\x00b\x00b",
		"\x80\x80\x04", "\x80\x80\x04" + many("x", 65539), "\xff\xff\x03" + many("x", 65538),
		// The first byte told one byte, and now tells more than there are.
		"\x09a\x00b\x00b", "\x03a\x00b\x00b",
	} {
		stands(t, b, sum.Torn)
	}
}

func TestNextBad(t *testing.T) {
	for _, b := range []string{
		"\x00\x00\x00\x00\x00", "\x00\x00\x00\x00\x02", "\x00\x01\x00\x00\x00", "\x00\x00\x00\x00\x00" + framed("a"),
		"\x01a\x00b\x00c", "\x01b\x00b\x00b", "\x01a\x00c\x00b", "\x00a\x00b\x00b", "\x01a\x00\x00\x00b\x00b",
		"\x01a\x62\x00\x62\x00", "\x01aa\x00b\x00b", "\x01\x00a\x00b\x00b", "\x01a\xff\xff\xff\xff",
		// More bytes than are needed for a number: it isn't one.
		"\x80\x00", "\xff\x00", "\x80\x00\x00\x00\x00\x01", "\x81\x00a\x00b\x00b", "\x80\x80\x00", "\xff\xff\xff\xff\xff\xff\xff\x00",
		"\x80\x80\x80\x80\x80\x80\x80\x80\x00",
		// Nine bytes of 128 or above, or more, begin no number.
		many("\x80", 9), many("\xff", 9), many("\x80", 10), many("\xff", 100), many("\xff", 8) + "\x80", many("\x80", 9) + "\x01",
		// A number above 65,536, with no bytes behind it, some, and all of them.
		"\x81\x80\x04", "\x81\x80\x04rest", "\x82\x80\x04", "\xff\xff\x7f", "\x80\x80\x80\x01", many("\xff", 8) + "\x7f",
		many("\x80", 8) + "\x01", string(codec.Num(1 << 32)), string(codec.Num(1<<32+1)) + "a\x00b\x00b",
		string(codec.Num(1<<62)) + many("x", 20), string(codec.Num(1<<63-1)) + many("x", 20), string(codec.Num(1<<63-4)) + many("x", 20),
		framed(many("\x00", 65537)), framed(many("abcdefgh", 10000)),
	} {
		stands(t, b, sum.Bad)
	}
}

// What is cut off at its end is torn, wherever that is.
func TestCutOff(t *testing.T) {
	for _, s := range bodies() {
		b := framed(s)
		for i := range b {
			if i < 20 || i > len(b)-10 || i%4099 == 0 {
				stands(t, b[:i], sum.Torn)
			}
		}
	}
}

// One bit that is turned in the bytes, or in the sum, makes a frame bad.
func TestTurned(t *testing.T) {
	for _, s := range bodies() {
		whole := []byte(framed(s))
		for i := len(codec.Num(len(s))); i < len(whole); i++ {
			if i > 20 && i < len(whole)-10 && i%4099 != 0 {
				continue
			}
			for bit := range 8 {
				b := bytes.Clone(whole)
				b[i] ^= 1 << bit
				stands(t, string(b), sum.Bad)
				stands(t, string(b)+framed("b"), sum.Bad)
			}
		}
	}
}

func texts(l [][]byte) []string {
	var s []string
	for _, p := range l {
		s = append(s, string(p))
	}
	return s
}

func TestAll(t *testing.T) {
	greatest := many("\xff", 65536)
	tails := []struct {
		b    string
		kind int
	}{
		{"", sum.Whole},
		{"\x80", sum.Torn},
		{many("\xff", 8), sum.Torn},
		{"\x00", sum.Torn},
		{"\x01a\x00b\x00", sum.Torn},
		{"\x80\x80\x04", sum.Torn},
		{many("\xff", 9), sum.Bad},
		{"\x80\x00", sum.Bad},
		{"\x81\x80\x04", sum.Bad},
		{"\x01a\x00b\x00c", sum.Bad},
		// A frame behind what is bad isn't looked for.
		{"\x01a\x00b\x00c" + framed("d"), sum.Bad},
		{"\x00\x00\x00\x00\x00" + framed("d"), sum.Bad},
	}
	for _, l := range [][]string{
		nil, {""}, {"a"}, {"", ""}, {"a", "", "b"}, {"a", "a", "a"}, {framed("a"), "b"}, {greatest, "", greatest},
		slices.Repeat([]string{""}, 1000), bodies(),
	} {
		whole := ""
		for _, s := range l {
			whole += framed(s)
		}
		for _, tail := range tails {
			got, n, kind := sum.All([]byte(whole + tail.b))
			if !slices.Equal(texts(got), l) || n != len(whole) || kind != tail.kind {
				t.Errorf("All of %d frames and %q: %d, %d bytes, %d", len(l), tail.b, len(got), n, kind)
			}
		}
	}
	if l, n, kind := sum.All(nil); len(l) != 0 || n != 0 || kind != sum.Whole {
		t.Error(l, n, kind)
	}
}

// What is cut off behind a frame leaves those ahead of it.
func TestAllCutOff(t *testing.T) {
	l := []string{"a", "", many("x", 200), "b"}
	whole, ends := "", []int{0}
	for _, s := range l {
		whole += framed(s)
		ends = append(ends, len(whole))
	}
	for i := range len(whole) + 1 {
		at, is := slices.BinarySearch(ends, i)
		want := sum.Whole
		if !is {
			at, want = at-1, sum.Torn
		}
		got, n, kind := sum.All([]byte(whole[:i]))
		if !slices.Equal(texts(got), l[:at]) || n != ends[at] || kind != want {
			t.Errorf("%d bytes: %q, %d, %d", i, got, n, kind)
		}
	}
}

// All takes a time by the bytes, not by the bytes for each of the frames.
func TestAllOfManyFrames(t *testing.T) {
	const count = 1 << 20
	l, n, kind := sum.All([]byte(many(framed("a"), count)))
	if len(l) != count || n != 6*count || kind != sum.Whole {
		t.Error(len(l), n, kind)
	}
}

// full gives bytes with spare room, and what all of that holds.
func full(s string) ([]byte, string) {
	b := append(make([]byte, 0, len(s)+8), s...)
	copy(b[len(b):cap(b)], "reserved")
	return b, string(b[:cap(b)])
}

// spoil writes over a list and its spare room.
func spoil(b []byte) {
	b = b[:cap(b)]
	for i := range b {
		b[i] = 0xee
	}
}

func TestArgumentsStayAndAnswersAreNew(t *testing.T) {
	for _, s := range []string{"", "a", many("x", 200)} {
		b, before := full(s)
		sum.Sum(b)
		f, _ := sum.Frame(b)
		if string(f) != framed(s) {
			t.Errorf("Frame of %q: %q", s, f)
		}
		spoil(f)
		if again, _ := sum.Frame(b); string(again) != framed(s) {
			t.Errorf("Frame of %q, again: %q", s, again)
		}
		if string(b[:cap(b)]) != before {
			t.Errorf("Sum or Frame changes or shares %q", s)
		}

		b, before = full(framed(s) + framed("b"))
		body, rest, _ := sum.Next(b)
		spoil(body)
		if string(rest) != framed("b") {
			t.Errorf("Next of %q: what is answered shares memory: %q", s, rest)
		}
		spoil(rest)
		if string(b[:cap(b)]) != before {
			t.Errorf("Next changes or shares %q", s)
		}

		b, before = full(framed(s) + framed("b") + framed(s))
		l, _, _ := sum.All(b)
		for i, want := range []string{s, "b", s} {
			if string(l[i]) != want {
				t.Errorf("All: what is answered shares memory: %q", l)
			}
			spoil(l[i])
		}
		if string(b[:cap(b)]) != before {
			t.Errorf("All changes or shares %q", s)
		}
	}
	for _, s := range []string{"", "\x80", "\x01a\x00b\x00c", many("\xff", 9)} {
		b, before := full(s)
		sum.Next(b)
		sum.All(b)
		if string(b[:cap(b)]) != before {
			t.Errorf("%q is changed", s)
		}
	}
}

// What stands behind the length of a list isn't looked at.
func TestSpareRoomIsNotRead(t *testing.T) {
	b := []byte(framed("a") + framed("b"))
	for i := range b {
		s := b[:i]
		l, n, kind := sum.All(s)
		again, m, same := sum.All(bytes.Clone(s))
		if !slices.Equal(texts(l), texts(again)) || n != m || kind != same {
			t.Errorf("%d bytes: %q, %d, %d", i, l, n, kind)
		}
	}
	if body, rest, kind := sum.Next(b[:5]); len(body) != 0 || len(rest) != 0 || kind != sum.Torn {
		t.Errorf("%q, %q, %d", body, rest, kind)
	}
}

func FuzzAll(f *testing.F) {
	for _, s := range bodies() {
		if len(s) < 300 {
			f.Add([]byte(s))
			f.Add([]byte(framed(s) + s))
		}
	}
	f.Fuzz(func(t *testing.T, b []byte) {
		l, n, kind := sum.All(b)
		rest := b
		for _, p := range l {
			body, next, k := sum.Next(rest)
			if k != sum.Whole || !bytes.Equal(body, p) {
				t.Fatalf("%q: %q, %d, not %q", rest, body, k, p)
			}
			if frame, ok := sum.Frame(p); !ok || !bytes.Equal(append(frame, next...), rest) {
				t.Fatalf("%q isn't the frame of %q", rest, p)
			}
			rest = next
		}
		if len(b)-len(rest) != n {
			t.Fatalf("%q: %d", b, n)
		}
		if len(rest) == 0 {
			if kind != sum.Whole {
				t.Fatalf("%q: %d", b, kind)
			}
			return
		}
		if _, _, k := sum.Next(rest); k != kind || k == sum.Whole {
			t.Fatalf("%q: %d, %d", rest, k, kind)
		}
	})
}
