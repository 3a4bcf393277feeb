package float_test

import (
	"bytes"
	"cmp"
	"math"
	"strings"
	"testing"

	"joist/float"
)

const kept = 9_221_120_237_041_090_560

// number is one number in all its forms.
type number struct {
	bits  uint64
	bytes []byte
	text  string
}

// numbers are right ones, in their order, each edge with its neighbours.
func numbers() []number {
	return []number{
		{0xfff0000000000000, []byte{0x00, 0x0f, 0xff, 0xff, 0xff, 0xff, 0xff, 0xff}, "-inf"},
		{0xffefffffffffffff, []byte{0x00, 0x10, 0x00, 0x00, 0x00, 0x00, 0x00, 0x00}, "xffefffffffffffff"},
		{0xc000000000000000, []byte{0x3f, 0xff, 0xff, 0xff, 0xff, 0xff, 0xff, 0xff}, "xc000000000000000"},
		{0xbff8000000000000, []byte{0x40, 0x07, 0xff, 0xff, 0xff, 0xff, 0xff, 0xff}, "xbff8000000000000"},
		{0xbff0000000000000, []byte{0x40, 0x0f, 0xff, 0xff, 0xff, 0xff, 0xff, 0xff}, "xbff0000000000000"},
		{0x8010000000000000, []byte{0x7f, 0xef, 0xff, 0xff, 0xff, 0xff, 0xff, 0xff}, "x8010000000000000"},
		{0x800fffffffffffff, []byte{0x7f, 0xf0, 0x00, 0x00, 0x00, 0x00, 0x00, 0x00}, "x800fffffffffffff"},
		{0x8000000000000002, []byte{0x7f, 0xff, 0xff, 0xff, 0xff, 0xff, 0xff, 0xfd}, "x8000000000000002"},
		{0x8000000000000001, []byte{0x7f, 0xff, 0xff, 0xff, 0xff, 0xff, 0xff, 0xfe}, "x8000000000000001"},
		{0x8000000000000000, []byte{0x7f, 0xff, 0xff, 0xff, 0xff, 0xff, 0xff, 0xff}, "-0"},
		{0x0000000000000000, []byte{0x80, 0x00, 0x00, 0x00, 0x00, 0x00, 0x00, 0x00}, "0"},
		{0x0000000000000001, []byte{0x80, 0x00, 0x00, 0x00, 0x00, 0x00, 0x00, 0x01}, "x0000000000000001"},
		{0x0000000000000002, []byte{0x80, 0x00, 0x00, 0x00, 0x00, 0x00, 0x00, 0x02}, "x0000000000000002"},
		{0x000fffffffffffff, []byte{0x80, 0x0f, 0xff, 0xff, 0xff, 0xff, 0xff, 0xff}, "x000fffffffffffff"},
		{0x0010000000000000, []byte{0x80, 0x10, 0x00, 0x00, 0x00, 0x00, 0x00, 0x00}, "x0010000000000000"},
		{0x3fe0000000000000, []byte{0xbf, 0xe0, 0x00, 0x00, 0x00, 0x00, 0x00, 0x00}, "x3fe0000000000000"},
		{0x3ff0000000000000, []byte{0xbf, 0xf0, 0x00, 0x00, 0x00, 0x00, 0x00, 0x00}, "x3ff0000000000000"},
		{0x400921fb54442d18, []byte{0xc0, 0x09, 0x21, 0xfb, 0x54, 0x44, 0x2d, 0x18}, "x400921fb54442d18"},
		{0x7fefffffffffffff, []byte{0xff, 0xef, 0xff, 0xff, 0xff, 0xff, 0xff, 0xff}, "x7fefffffffffffff"},
		{0x7ff0000000000000, []byte{0xff, 0xf0, 0x00, 0x00, 0x00, 0x00, 0x00, 0x00}, "inf"},
		{0x7ff8000000000000, []byte{0xff, 0xf8, 0x00, 0x00, 0x00, 0x00, 0x00, 0x00}, "nan"},
	}
}

// others are the bits of NaNs that aren't kept: with either sign, quiet or not,
// the least and the greatest ones, and the neighbours of the one that is kept.
func others() []uint64 {
	return []uint64{
		0x7ff0000000000001, 0x7ff4000000000000, 0x7ff7ffffffffffff,
		0x7ff8000000000001, 0x7ff8000000000003, 0x7fffffffffffffff,
		0xfff0000000000001, 0xfff4000000000000, 0xfff7ffffffffffff,
		0xfff8000000000000, 0xfff8000000000001, 0xffffffffffffffff,
	}
}

// mixed is a long row of bits without a plan, the same each time.
func mixed() []uint64 {
	l := others()
	for _, x := range numbers() {
		l = append(l, x.bits, x.bits+1, x.bits-1, ^x.bits)
	}
	u := uint64(1)
	for range 2000 {
		u = u*6364136223846793005 + 1442695040888963407
		l = append(l, u^u>>29, u>>7, u<<11)
	}
	return l
}

func isRight(u uint64) bool {
	return u == kept || u&(1<<63-1) <= 0x7ff0000000000000
}

func TestOfIsTheBits(t *testing.T) {
	for _, x := range []struct {
		f    float64
		want uint64
	}{
		{0, 0}, {math.Copysign(0, -1), 1 << 63}, {1, 0x3ff << 52}, {-1.5, 0xbff8 << 48},
		{math.Pi, 0x400921fb54442d18}, {math.Inf(1), 0x7ff0 << 48}, {math.Inf(-1), 0xfff0 << 48},
		{math.MaxFloat64, 0x7fefffffffffffff}, {-math.MaxFloat64, 0xffefffffffffffff},
		{math.SmallestNonzeroFloat64, 1}, {-math.SmallestNonzeroFloat64, 1<<63 | 1},
	} {
		if got := float.Of(x.f); uint64(got) != x.want {
			t.Errorf("Of(%v): %x", x.f, uint64(got))
		}
	}
}

func TestOfAnyNaNIsTheOneThatIsKept(t *testing.T) {
	for _, u := range append(others(), kept, math.Float64bits(math.NaN())) {
		if got := float.Of(math.Float64frombits(u)); got != kept {
			t.Errorf("Of(NaN %x): %x", u, got)
		}
	}
}

func TestToIsTheFloatOfTheBits(t *testing.T) {
	if float.To(0x3ff<<52) != 1 || float.To(-1<<52) != math.Inf(-1) || !math.Signbit(float.To(-1<<63)) {
		t.Error("one, minus infinity or minus nought")
	}
	for _, u := range mixed() {
		f := float.To(int(u))
		if math.IsNaN(f) != math.IsNaN(math.Float64frombits(u)) || !math.IsNaN(f) && math.Float64bits(f) != u {
			t.Errorf("To(%x): %v", u, f)
		}
	}
	for _, u := range []uint64{kept, 0x7ff8000000000003, 0xfff8000000000001} {
		if got := math.Float64bits(float.To(int(u))); got != u {
			t.Errorf("To(%x): %x", u, got)
		}
	}
}

func TestRightIsAllButOtherNaNs(t *testing.T) {
	for _, x := range numbers() {
		if !float.Right(int(x.bits)) {
			t.Errorf("%s isn't right", x.text)
		}
	}
	for _, u := range others() {
		if float.Right(int(u)) {
			t.Errorf("%x is right", u)
		}
	}
	for _, u := range mixed() {
		if float.Right(int(u)) != isRight(u) {
			t.Errorf("Right(%x)", u)
		}
	}
}

func TestOrderOfRightNumbers(t *testing.T) {
	for i, x := range numbers() {
		for k, y := range numbers() {
			if got := float.Order(int(x.bits), int(y.bits)); got != cmp.Compare(i, k) {
				t.Errorf("Order(%s, %s): %d", x.text, y.text, got)
			}
		}
	}
}

func TestOrderHoldsOtherNaNsForNaN(t *testing.T) {
	for _, u := range append(others(), kept) {
		for _, x := range numbers() {
			want := 1
			if x.bits == kept {
				want = 0
			}
			if got := float.Order(int(u), int(x.bits)); got != want {
				t.Errorf("Order(%x, %s): %d", u, x.text, got)
			}
			if got := float.Order(int(x.bits), int(u)); got != -want {
				t.Errorf("Order(%s, %x): %d", x.text, u, got)
			}
		}
		for _, v := range others() {
			if got := float.Order(int(u), int(v)); got != 0 {
				t.Errorf("Order(%x, %x): %d", u, v, got)
			}
		}
	}
}

func TestOrderIsThatOfTheFloats(t *testing.T) {
	l := mixed()
	for i, u := range l {
		v := l[(i+1)%len(l)]
		x, y := math.Float64frombits(u), math.Float64frombits(v)
		if x < y && float.Order(int(u), int(v)) != -1 || x > y && float.Order(int(u), int(v)) != 1 {
			t.Errorf("Order(%x, %x): %d", u, v, float.Order(int(u), int(v)))
		}
	}
}

func TestBytesOfRightNumbers(t *testing.T) {
	for _, x := range numbers() {
		if got := float.Bytes(int(x.bits)); !bytes.Equal(got, x.bytes) {
			t.Errorf("Bytes(%s): %x", x.text, got)
		}
	}
}

func TestBytesOfOthersAreNone(t *testing.T) {
	for _, u := range others() {
		if got := float.Bytes(int(u)); len(got) != 0 {
			t.Errorf("Bytes(%x): %x", u, got)
		}
	}
}

func TestBytesStandInOrder(t *testing.T) {
	l := mixed()
	for i, u := range l {
		for _, v := range []uint64{l[(i+1)%len(l)], l[(i+100)%len(l)], u} {
			if !isRight(u) || !isRight(v) {
				continue
			}
			a, b := float.Bytes(int(u)), float.Bytes(int(v))
			if bytes.Compare(a, b) != float.Order(int(u), int(v)) {
				t.Errorf("%x and %x: %x and %x", u, v, a, b)
			}
		}
	}
}

func TestFromUndoesBytes(t *testing.T) {
	for _, x := range numbers() {
		if n, ok := float.From(x.bytes); !ok || uint64(n) != x.bits {
			t.Errorf("From(%x): %x, %v", x.bytes, uint64(n), ok)
		}
	}
	for _, u := range mixed() {
		n, ok := float.From(float.Bytes(int(u)))
		if ok != isRight(u) || ok && uint64(n) != u || !ok && n != 0 {
			t.Errorf("From(Bytes(%x)): %x, %v", u, uint64(n), ok)
		}
	}
}

func TestFromOfWrongBytes(t *testing.T) {
	wrong := [][]byte{nil, {}, {128}, make([]byte, 16)}
	for _, x := range numbers() {
		longer := append(bytes.Clone(x.bytes), 0)
		wrong = append(wrong, x.bytes[:7], x.bytes[1:], longer)
	}
	for _, u := range others() {
		b := make([]byte, 8)
		for i := range b {
			b[i] = byte(u >> (56 - 8*i))
			if u>>63 == 1 {
				b[i] = ^b[i]
			}
		}
		b[0] |= byte(^u>>63) << 7
		wrong = append(wrong, b)
	}
	for _, b := range wrong {
		if n, ok := float.From(b); ok || n != 0 {
			t.Errorf("From(%x): %x, %v", b, n, ok)
		}
	}
}

func TestShow(t *testing.T) {
	for _, x := range numbers() {
		if got := float.Show(int(x.bits)); got != x.text {
			t.Errorf("Show(%x): %s", x.bits, got)
		}
	}
	for _, u := range others() {
		if got := float.Show(int(u)); got != "?" {
			t.Errorf("Show(%x): %s", u, got)
		}
	}
}

func TestReadUndoesShow(t *testing.T) {
	for _, x := range numbers() {
		if n, ok := float.Read(x.text); !ok || uint64(n) != x.bits {
			t.Errorf("Read(%s): %x, %v", x.text, uint64(n), ok)
		}
	}
	for _, u := range mixed() {
		n, ok := float.Read(float.Show(int(u)))
		if ok != isRight(u) || ok && uint64(n) != u || !ok && n != 0 {
			t.Errorf("Read(Show(%x)): %x, %v", u, uint64(n), ok)
		}
	}
}

func TestReadOfWrongTexts(t *testing.T) {
	for _, s := range []string{
		"", "?", " ", "x", "-", "+", "1", "-1", "00", "+0", "--0", "0.0", "0 ", " 0", "0\n", "-x", "-nan", "+nan",
		"NaN", "NAN", "nan ", "nan\x00", "Inf", "INF", "+inf", "infinity", "--inf", "-Inf", "inff", "xinf",
		"x0000000000000000", "x8000000000000000", "x7ff0000000000000", "xfff0000000000000", "x7ff8000000000000",
		"x7ff0000000000001", "x7ff8000000000001", "xfff8000000000000", "xffffffffffffffff", "x7fffffffffffffff",
		"x3FF0000000000000", "x3fF0000000000000", "X3ff0000000000000", "x3ff000000000000", "x3ff00000000000000",
		"3ff0000000000000", "03ff0000000000000", "0x3ff0000000000000", "x0x3ff00000000000", "x03ff0000000000000",
		"-x3ff0000000000000", "x-3ff000000000000", "x+3ff000000000000", "x3ff_000000000000", "x 3ff000000000000",
		"x3ff000000000000g", "x3ff000000000000\x00", "x3ff000000000000\xff", "x3ff0000000000000 ", " x3ff0000000000000",
		"xx3ff000000000000", "x3ff0000000000000x", strings.Repeat("0", 1000), "x" + strings.Repeat("f", 100000),
	} {
		if n, ok := float.Read(s); ok || n != 0 {
			t.Errorf("Read(%q): %x, %v", s, n, ok)
		}
	}
}

func TestAnswersAreNewMemory(t *testing.T) {
	for _, x := range numbers() {
		a, b := float.Bytes(int(x.bits)), float.Bytes(int(x.bits))
		a = a[:cap(a)]
		for i := range a {
			a[i] ^= 0xff
		}
		if !bytes.Equal(b, x.bytes) || !bytes.Equal(float.Bytes(int(x.bits)), x.bytes) {
			t.Errorf("the bytes of %s are shared", x.text)
		}
	}
}

func TestFromLeavesItsBytesAlone(t *testing.T) {
	for _, x := range numbers() {
		room := append(bytes.Clone(x.bytes), 1, 2, 3, 4, 5, 6, 7, 8)
		was := bytes.Clone(room)
		for n := range len(room) + 1 {
			float.From(room[:n])
		}
		if !bytes.Equal(room, was) {
			t.Errorf("From changed the bytes of %s", x.text)
		}
	}
}

func TestEveryCallEndsAtAnyArguments(t *testing.T) {
	for i, u := range mixed() {
		n := int(u)
		b := float.Bytes(n)
		float.Of(float.To(n))
		float.Order(n, int(u>>(i%64)))
		float.From(append(b, b...))
		float.From(b[:len(b)/2])
		float.Read(float.Show(n) + string(b))
		float.Read(string(b))
	}
}
