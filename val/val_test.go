package val_test

import (
	"bytes"
	"cmp"
	"math"
	"strings"
	"testing"

	"joist/api"
	"joist/float"
	"joist/val"
)

const kept = 9_221_120_237_041_090_560

// form is one right value in all its forms.
type form struct {
	v     api.Value
	bytes string
	text  string
}

func whole(n int) api.Value       { return api.Value{Kind: api.VInt, N: n} }
func blob(s string) api.Value     { return api.Value{Kind: api.VBytes, S: s} }
func text(s string) api.Value     { return api.Value{Kind: api.VText, S: s} }
func truth(n int) api.Value       { return api.Value{Kind: api.VBool, N: n} }
func bits(n int) api.Value        { return api.Value{Kind: api.VFloat, N: n} }
func number(f float64) api.Value  { return bits(float.Of(f)) }
func raw(b ...byte) string        { return string(b) }
func many(s string, n int) string { return strings.Repeat(s, n) }

// forms are right values, in their order, each edge with its neighbours.
func forms() []form {
	return []form{
		{whole(math.MinInt), "\x01\x00\x00\x00\x00\x00\x00\x00\x00", "-9223372036854775808"},
		{whole(math.MinInt + 1), "\x01\x00\x00\x00\x00\x00\x00\x00\x01", "-9223372036854775807"},
		{whole(-256), "\x01\x7f\xff\xff\xff\xff\xff\xff\x00", "-256"},
		{whole(-1), "\x01\x7f\xff\xff\xff\xff\xff\xff\xff", "-1"},
		{whole(0), "\x01\x80\x00\x00\x00\x00\x00\x00\x00", "0"},
		{whole(1), "\x01\x80\x00\x00\x00\x00\x00\x00\x01", "1"},
		{whole(7), "\x01\x80\x00\x00\x00\x00\x00\x00\x07", "7"},
		{whole(0x0102030405060708), "\x01\x81\x02\x03\x04\x05\x06\x07\x08", "72623859790382856"},
		{whole(math.MaxInt), "\x01\xff\xff\xff\xff\xff\xff\xff\xff", "9223372036854775807"},

		{blob(""), "\x02\x00\x01", `b""`},
		{blob("\x00"), "\x02\x00\xff\x00\x01", `b"\00"`},
		{blob("\x00\x00"), "\x02\x00\xff\x00\xff\x00\x01", `b"\00\00"`},
		{blob(many("\x00", 32)), "\x02" + many("\x00\xff", 32) + "\x00\x01", `b"` + many(`\00`, 32) + `"`},
		{blob("\x00\x01"), "\x02\x00\xff\x01\x00\x01", `b"\00\01"`},
		{blob("\x00\xff"), "\x02\x00\xff\xff\x00\x01", `b"\00\ff"`},
		{blob("\x01"), "\x02\x01\x00\x01", `b"\01"`},
		{blob("\x1f\x20"), "\x02\x1f\x20\x00\x01", `b"\1f "`},
		{blob(" !#[]~\x7f"), "\x02 !#[]~\x7f\x00\x01", `b" !#[]~\7f"`},
		{blob(`"`), "\x02\"\x00\x01", `b"\22"`},
		{blob(`\`), "\x02\\\x00\x01", `b"\5c"`},
		{blob(`\00`), "\x02\\00\x00\x01", `b"\5c00"`},
		{blob("a"), "\x02a\x00\x01", `b"a"`},
		{blob("a\x00"), "\x02a\x00\xff\x00\x01", `b"a\00"`},
		{blob("a\x01"), "\x02a\x01\x00\x01", `b"a\01"`},
		{blob("ab"), "\x02ab\x00\x01", `b"ab"`},
		{blob(many("x", 32)), "\x02" + many("x", 32) + "\x00\x01", `b"` + many("x", 32) + `"`},
		{blob("\xff"), "\x02\xff\x00\x01", `b"\ff"`},
		{blob(many("\xff", 32)), "\x02" + many("\xff", 32) + "\x00\x01", `b"` + many(`\ff`, 32) + `"`},

		{text(""), "\x03\x00\x01", `t""`},
		{text("\x00"), "\x03\x00\xff\x00\x01", `t"\00"`},
		{text("\n"), "\x03\n\x00\x01", `t"\0a"`},
		{text("a"), "\x03a\x00\x01", `t"a"`},
		{text("a\x00"), "\x03a\x00\xff\x00\x01", `t"a\00"`},
		{text("a\x00b"), "\x03a\x00\xffb\x00\x01", `t"a\00b"`},
		{text(`say "no" \ `), "\x03say \"no\" \\ \x00\x01", `t"say \22no\22 \5c "`},
		{text("true"), "\x03true\x00\x01", `t"true"`},
		{text("\u00e4"), "\x03\xc3\xa4\x00\x01", `t"\c3\a4"`},
		{text("\ufffd"), "\x03\xef\xbf\xbd\x00\x01", `t"\ef\bf\bd"`},
		{text(many("\U0001f600", 8)), "\x03" + many("\xf0\x9f\x98\x80", 8) + "\x00\x01", `t"` + many(`\f0\9f\98\80`, 8) + `"`},
		{text("\U0010ffff"), "\x03\xf4\x8f\xbf\xbf\x00\x01", `t"\f4\8f\bf\bf"`},

		{truth(0), "\x04\x00", "false"},
		{truth(1), "\x04\x01", "true"},

		{number(math.Inf(-1)), "\x05\x00\x0f\xff\xff\xff\xff\xff\xff", "f-inf"},
		{number(-1.5), "\x05\x40\x07\xff\xff\xff\xff\xff\xff", "fxbff8000000000000"},
		{number(math.Copysign(0, -1)), "\x05\x7f\xff\xff\xff\xff\xff\xff\xff", "f-0"},
		{number(0), "\x05\x80\x00\x00\x00\x00\x00\x00\x00", "f0"},
		{number(1), "\x05\xbf\xf0\x00\x00\x00\x00\x00\x00", "fx3ff0000000000000"},
		{number(math.Inf(1)), "\x05\xff\xf0\x00\x00\x00\x00\x00\x00", "finf"},
		{bits(kept), "\x05\xff\xf8\x00\x00\x00\x00\x00\x00", "fnan"},
	}
}

// wrong are values that aren't right, each for one reason.
func wrong() []api.Value {
	l := []api.Value{
		{}, {N: 1}, {S: "a"}, {Kind: 6}, {Kind: -1}, {Kind: math.MinInt}, {Kind: math.MaxInt}, {Kind: 257}, {Kind: 256 + api.VBytes, S: "a"},
		{Kind: api.VInt, S: "a"}, {Kind: api.VInt, N: 3, S: "\x00"},
		{Kind: api.VBytes, N: 1, S: "a"}, {Kind: api.VBytes, N: -1}, blob(many("x", 33)), blob(many("x", 100_000)),
		{Kind: api.VText, N: 1, S: "a"}, {Kind: api.VText, N: math.MinInt}, text(many("x", 33)), text(many("\u00e4", 17)),
		truth(2), truth(-1), truth(math.MaxInt), truth(256), {Kind: api.VBool, N: 1, S: "a"}, {Kind: api.VBool, S: "\x00"},
		{Kind: api.VFloat, S: "a"}, {Kind: api.VFloat, N: kept, S: "\x00"},
		bits(kept + 1), bits(kept | 3), bits(-1), bits(math.MaxInt), bits(0x7ff0<<48 | 1), bits(-1<<51 | 1),
	}
	for _, s := range broken() {
		l = append(l, text(s))
	}
	return l
}

// broken are bytes that aren't UTF-8: without a beginning, cut off, longer than
// needed, halves of pairs, above the greatest rune.
func broken() []string {
	return []string{
		"\x80", "\xff", "a\xbf", "\xc3", "\xc3a", "a\xe2\x82", "\xc0\x80", "\xc1\xbf", "\xe0\x9f\xbf", "\xf0\x8f\xbf\xbf",
		"\xed\xa0\x80", "\xed\xbf\xbf", "\xf4\x90\x80\x80", "\xf8\x88\x80\x80\x80", many("a", 31) + "\xc3",
	}
}

// mixed is a long row of values without a plan, the same each time: many of
// them aren't right, and some are alike but for one part.
func mixed() []api.Value {
	l := wrong()
	for _, x := range forms() {
		l = append(l, x.v)
		for _, kind := range []int{0, api.VInt, api.VBytes, api.VText, api.VBool, api.VFloat, 6} {
			l = append(l, api.Value{Kind: kind, N: x.v.N, S: x.v.S})
		}
	}
	u := uint64(1)
	for i := range 3000 {
		u = u*6364136223846793005 + 1442695040888963407
		s := raw(byte(u>>60), byte(u>>52), byte(u>>44)&0x81, byte(u>>36)|0xfe)
		n := int(u ^ u>>29)
		l = append(l, whole(n>>(i%64)), blob(s[:i%5]), text(s[:i%4]), truth(n>>62), bits(n), api.Value{Kind: i % 7, N: n >> (i % 64), S: s[:i%3]})
	}
	return l
}

func nothing(v api.Value, ok bool) bool { return !ok && v == api.Value{} }

func TestRightValues(t *testing.T) {
	for _, x := range forms() {
		if !val.Right(x.v) {
			t.Errorf("%s isn't right", x.text)
		}
	}
	for n := range 33 {
		if !val.Right(blob(many("\xff", n))) || !val.Right(text(many("a", n))) {
			t.Errorf("%d bytes aren't right", n)
		}
	}
}

func TestWrongValues(t *testing.T) {
	for _, v := range wrong() {
		if val.Right(v) {
			t.Errorf("%v is right", v)
		}
	}
	for _, s := range broken() {
		if !val.Right(blob(s)) {
			t.Errorf("%q isn't right as bytes", s)
		}
	}
}

func TestOrderOfRightValues(t *testing.T) {
	for i, x := range forms() {
		for k, y := range forms() {
			if got := val.Order(x.v, y.v); got != cmp.Compare(i, k) {
				t.Errorf("Order(%s, %s): %d", x.text, y.text, got)
			}
		}
	}
}

func TestOrderOfAnyValues(t *testing.T) {
	for _, x := range []struct {
		a, b api.Value
		want int
	}{
		{api.Value{}, api.Value{}, 0},
		{api.Value{Kind: math.MinInt}, api.Value{Kind: math.MaxInt}, -1},
		{api.Value{Kind: -1, N: 9, S: "z"}, api.Value{}, -1},
		{api.Value{Kind: 6}, bits(kept), 1},
		{api.Value{Kind: api.VInt, N: 9, S: "z"}, blob(""), -1},
		{api.Value{Kind: api.VInt, N: 1, S: "b"}, api.Value{Kind: api.VInt, N: 2, S: "a"}, -1},
		{api.Value{Kind: api.VInt, N: 1, S: "b"}, api.Value{Kind: api.VInt, N: 1, S: "a"}, 1},
		{api.Value{Kind: api.VBytes, N: 1}, api.Value{Kind: api.VBytes, S: "a"}, 1},
		{api.Value{Kind: api.VText, N: math.MinInt, S: "z"}, text(""), -1},
		{text("\xff"), text("\xfe\xff"), 1},
		{blob(many("x", 40)), blob(many("x", 41)), -1},
		{truth(-1), truth(0), -1},
		{truth(math.MaxInt), truth(math.MinInt), 1},
		{api.Value{Kind: 0, N: -1}, api.Value{Kind: 0, N: 0}, -1},
		{api.Value{Kind: 7, N: 1, S: "b"}, api.Value{Kind: 7, N: 1, S: "a"}, 1},
		// As numbers these stand the other way round.
		{number(-1), number(-2), 1},
		{number(math.Copysign(0, -1)), number(math.Inf(-1)), 1},
		// One that isn't right counts as NaN.
		{bits(-1), bits(kept), 0},
		{bits(-1), number(math.Inf(1)), 1},
		{api.Value{Kind: api.VFloat, N: -1, S: "a"}, bits(kept), 1},
		{api.Value{Kind: api.VFloat, N: -1, S: "a"}, api.Value{Kind: api.VFloat, N: math.MaxInt, S: "b"}, -1},
	} {
		if got := val.Order(x.a, x.b); got != x.want {
			t.Errorf("Order(%v, %v): %d", x.a, x.b, got)
		}
		if got := val.Order(x.b, x.a); got != -x.want {
			t.Errorf("Order(%v, %v): %d", x.b, x.a, got)
		}
	}
}

func TestOrderIsByKindThenNumberThenText(t *testing.T) {
	l := mixed()
	for i, a := range l {
		for _, b := range []api.Value{a, l[(i+1)%len(l)], l[(i+6)%len(l)], l[(i+30)%len(l)]} {
			numbers := cmp.Compare(a.N, b.N)
			if a.Kind == api.VFloat {
				numbers = float.Order(a.N, b.N)
			}
			want := cmp.Or(cmp.Compare(a.Kind, b.Kind), numbers, strings.Compare(a.S, b.S))
			if got := val.Order(a, b); got != want {
				t.Errorf("Order(%v, %v): %d", a, b, got)
			}
		}
	}
}

func TestEncodeOfRightValues(t *testing.T) {
	for _, x := range forms() {
		if b, ok := val.Encode(x.v); !ok || string(b) != x.bytes {
			t.Errorf("Encode(%s): %x, %v", x.text, b, ok)
		}
	}
}

func TestEncodeOfWrongValues(t *testing.T) {
	for _, v := range wrong() {
		if b, ok := val.Encode(v); ok || len(b) != 0 {
			t.Errorf("Encode(%v): %x, %v", v, b, ok)
		}
	}
}

func TestBytesStandInOrder(t *testing.T) {
	for _, x := range forms() {
		for _, y := range forms() {
			if got := cmp.Compare(x.bytes, y.bytes); got != val.Order(x.v, y.v) {
				t.Errorf("%s and %s: %d", x.text, y.text, got)
			}
		}
	}
	l := mixed()
	for i, v := range l {
		for k := i % 7; k < len(l); k += 97 {
			a, aok := val.Encode(v)
			b, bok := val.Encode(l[k])
			if aok && bok && bytes.Compare(a, b) != val.Order(v, l[k]) {
				t.Errorf("%v and %v: %x and %x", v, l[k], a, b)
			}
		}
	}
}

func TestDecodeUndoesEncode(t *testing.T) {
	for _, x := range forms() {
		if v, ok := val.Decode([]byte(x.bytes)); !ok || v != x.v {
			t.Errorf("Decode(%x): %v, %v", x.bytes, v, ok)
		}
	}
	for _, v := range mixed() {
		b, right := val.Encode(v)
		if right != val.Right(v) {
			t.Errorf("Encode(%v): %v", v, right)
		}
		got, ok := val.Decode(b)
		if ok != right || ok && got != v || !ok && !nothing(got, ok) {
			t.Errorf("Decode(Encode(%v)): %v, %v", v, got, ok)
		}
	}
}

// otherBytes are no value's bytes.
func otherBytes() []string {
	l := []string{
		"", "\x00", "\x00\x00\x01", "\x06", "\x06\x00\x01", "\xff\x00", "\x81\x80\x00\x00\x00\x00\x00\x00\x00",
		"\x02\x00", "\x02\x01", "\x02a\x00", "\x02a\x01", "\x02\x00\x00", "\x02\x00\x02", "\x02\x00\xff", "\x02\x00\xff\x01",
		"\x02\x00\xff\x00", "\x02\x00\x00\x01", "\x02\x00\x01\x00\x01", "\x02\x00\x02\x00\x01", "\x02\x00\xfe\x00\x01", "\x02\x01\x00",
		"\x02a\x00\x01b\x00\x01", "\x02a\x00b\x00\x01", "\x02a\x00\x00\x01", "\x02\x00\xff\x00\x00\x01", "\x02a\x00\x00\x00\x01",
		"\x02" + many("x", 33) + "\x00\x01", "\x02" + many("\x00\xff", 33) + "\x00\x01", "\x03" + many("x", 33) + "\x00\x01",
		"\x03" + many("\x00\xff", 100_000) + "\x00\x01", "\x02" + many("\x00\x01", 100_000), "\x02" + many("\x00", 100_000) + "\x01",
		"\x04\x02", "\x04\xff", "\x04\x00\x00", "\x04\x01\x01", "\x04\x00\x01",
		"\x05\xff\xf8\x00\x00\x00\x00\x00\x01", "\x05\x00\x00\x00\x00\x00\x00\x00\x00", "\x05\xff\xf0\x00\x00\x00\x00\x00\x01",
		"\x05\x00\x0f\xff\xff\xff\xff\xff\xfe", "\x05\xff\xff\xff\xff\xff\xff\xff\xff",
	}
	for _, s := range broken() {
		l = append(l, "\x03"+s+"\x00\x01")
	}
	for _, x := range forms() {
		l = append(l, x.bytes+"\x00", x.bytes+"\x01", x.bytes+x.bytes, x.bytes[1:2]+x.bytes)
		for n := range len(x.bytes) {
			l = append(l, x.bytes[:n])
		}
	}
	return l
}

func TestDecodeOfOtherBytes(t *testing.T) {
	for _, s := range otherBytes() {
		if v, ok := val.Decode([]byte(s)); !nothing(v, ok) {
			t.Errorf("Decode(%x): %v, %v", s, v, ok)
		}
	}
}

// Of all short bytes just those are a value's that Encode tells.
func TestDecodeOfAllShortBytes(t *testing.T) {
	edges := []byte{0, 1, 2, 3, 4, 5, 6, 'a', 127, 128, 254, 255}
	l := []string{""}
	for i := 0; i < len(l); i++ {
		b := []byte(l[i])
		v, ok := val.Decode(b)
		if again, right := val.Encode(v); ok && (!right || !bytes.Equal(again, b)) || !ok && !nothing(v, ok) {
			t.Errorf("Decode(%x): %v, %v", b, v, ok)
		}
		for _, x := range edges {
			if len(b) < 5 && (len(b) > 0 || x <= 6) {
				l = append(l, l[i]+raw(x))
			}
		}
	}
}

func TestShow(t *testing.T) {
	for _, x := range forms() {
		if got := val.Show(x.v); got != x.text {
			t.Errorf("Show(%v): %s", x.v, got)
		}
	}
	for _, v := range wrong() {
		if got := val.Show(v); got != "?" {
			t.Errorf("Show(%v): %s", v, got)
		}
	}
}

func TestShowOfEachByte(t *testing.T) {
	const digits = "0123456789abcdef"
	for c := range 256 {
		s := raw(byte(c))
		want := `b"` + s + `"`
		if c < 32 || c > 126 || c == '"' || c == '\\' {
			want = `b"\` + digits[c/16:c/16+1] + digits[c%16:c%16+1] + `"`
		}
		if got := val.Show(blob(s)); got != want {
			t.Errorf("Show of the byte %d: %s", c, got)
		}
		if v, ok := val.Read(want); !ok || v != blob(s) {
			t.Errorf("Read(%s): %v, %v", want, v, ok)
		}
		if v, ok := val.Read(`b"` + s + `"`); ok != (want == `b"`+s+`"`) || !ok && !nothing(v, ok) {
			t.Errorf("Read of the byte %d as it is: %v, %v", c, v, ok)
		}
	}
}

func TestReadUndoesShow(t *testing.T) {
	for _, x := range forms() {
		if v, ok := val.Read(x.text); !ok || v != x.v {
			t.Errorf("Read(%s): %v, %v", x.text, v, ok)
		}
	}
	for _, v := range mixed() {
		got, ok := val.Read(val.Show(v))
		if ok != val.Right(v) || ok && got != v || !ok && !nothing(got, ok) {
			t.Errorf("Read(Show(%v)): %v, %v", v, got, ok)
		}
	}
}

// otherTexts are no value's texts.
func otherTexts() []string {
	l := []string{
		"", "?", " ", "-", "+", "+1", "+0", "-0", "--1", "00", "01", "-01", "1 ", " 1", "1\n", "1.0", "1e3", "0x1", "1_000", "\x00", "7\x00",
		"9223372036854775808", "-9223372036854775809", "18446744073709551615", many("9", 100_000), "x3ff0000000000000", "nan", "inf", "-inf",
		"True", "TRUE", "FALSE", "true ", " true", "truee", "tru", "t", "falsee", "fals", "f", "yes", "false\x00",
		"f?", "fNaN", "f+inf", "f1", "f00", "f 0", "f0 ", "F0", "ff0", "fx", "fx0000000000000000", "fx7ff8000000000000", "fx7ff8000000000001",
		"fxffffffffffffffff", "fx3FF0000000000000", "fx3ff000000000000", `f"0"`, `f""`,
		"b", `b"`, `b"a`, `ba"`, `"a"`, "b'a'", `b a""`, `b "a"`, ` b"a"`, `b"a" `, `b"a"b"a"`, `b""a`, `b"""`, `b"a"b"`, `B"a"`, `b"a"` + "\n",
		`b"\"`, `b"\\"`, `b"\""`, `b"\0"`, `b"\0`, `b"\00`, `b"\0g"`, `b"\g0"`, `b"\ 0"`, `b"\n"`, `b"\x00"`, `b"\+1"`, `b"a\`, `b"\5C"`, `b"\FF"`, `b"\fF"`,
		`b"\20"`, `b"\61"`, `b"\7e"`, `b"\41b"`, "b\"\x00\"", "b\"\x1f\"", "b\"\x7f\"", "b\"\xff\"", "b\"\n\"", "t\"\u00e4\"", "\u00e4",
		`b"` + many("x", 33) + `"`, `b"` + many(`\00`, 33) + `"`, `t"` + many("x", 33) + `"`, `t"` + many(`\c3\a4`, 17) + `"`,
		`b"` + many("x", 100_000) + `"`, `b"` + many(`\`, 100_000) + `"`, many(`"`, 100_000), "t" + many(`"`, 100_000), many("t", 100_000),
		`t"\c3"`, `t"\80"`, `t"\c0\80"`, `t"\ed\a0\80"`, `t"\f4\90\80\80"`, `t"\ff"`, `t"a\c3"`, `x""`, `v"a"`,
	}
	for _, x := range forms() {
		l = append(l, x.text+" ", " "+x.text, x.text+"\x00", "?"+x.text, x.text+"?")
	}
	return l
}

func TestReadOfOtherTexts(t *testing.T) {
	for _, s := range otherTexts() {
		if v, ok := val.Read(s); !nothing(v, ok) {
			t.Errorf("Read(%q): %v, %v", s, v, ok)
		}
	}
}

func TestReadOfCutTexts(t *testing.T) {
	for _, x := range forms() {
		for n := range len(x.text) {
			v, ok := val.Read(x.text[:n])
			if ok && val.Show(v) != x.text[:n] || !ok && !nothing(v, ok) {
				t.Errorf("Read(%q): %v, %v", x.text[:n], v, ok)
			}
		}
	}
}

func TestAnswersAreNewMemory(t *testing.T) {
	for _, x := range forms() {
		a, _ := val.Encode(x.v)
		b, _ := val.Encode(x.v)
		a = a[:cap(a)]
		for i := range a {
			a[i] ^= 0xff
		}
		if again, _ := val.Encode(x.v); string(b) != x.bytes || string(again) != x.bytes {
			t.Errorf("the bytes of %s are shared", x.text)
		}
	}
}

func TestWhatDecodeIsHandedIsNeitherChangedNorKept(t *testing.T) {
	for _, x := range forms() {
		room := []byte(x.bytes + "\x00\x01\x00\xff\x00\x01")
		was := bytes.Clone(room)
		for n := range len(room) + 1 {
			val.Decode(room[:n])
		}
		if !bytes.Equal(room, was) {
			t.Errorf("Decode changed the bytes of %s", x.text)
		}
		v, ok := val.Decode(room[:len(x.bytes)])
		for i := range room {
			room[i] ^= 0xff
		}
		if !ok || v != x.v {
			t.Errorf("Decode kept the bytes of %s", x.text)
		}
	}
}

func TestEveryCallEndsAtAnyArguments(t *testing.T) {
	l := mixed()
	for i, v := range l {
		b, _ := val.Encode(v)
		val.Order(v, l[len(l)-1-i])
		val.Decode(append(b, b...))
		val.Decode(b[:len(b)/2])
		val.Decode([]byte(v.S))
		val.Read(v.S)
		val.Read(val.Show(v) + v.S)
		val.Read(string(b))
	}
	val.Decode(nil)
}
