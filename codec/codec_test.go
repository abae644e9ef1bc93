package codec_test

import (
	"encoding/hex"
	"math"
	"math/rand"
	"reflect"
	"strings"
	"testing"

	"afflux/api"
	. "afflux/codec"
	"afflux/value"
)

func unhex(s string) *Reader {
	b, err := hex.DecodeString(s)
	if err != nil {
		panic(err)
	}
	return Read(string(b))
}

// P4.1, P4.2
func TestWriter(t *testing.T) {
	one := func() *Writer { return &Writer{} }
	long := value.Text(strings.Repeat("x", 201))
	for _, c := range []struct {
		want string
		w    *Writer
	}{
		{"", one().Size().Signed().Text().Value()},
		{"02012c", one().Size(300)},
		{"000101", one().Size(0, 1)},
		{"00", one().Size(-5)},
		{"087fffffffffffffff", one().Size(math.MaxInt64)},
		{"0101", one().Signed(-1)},
		{"0001020103", one().Signed(0, 1, -2)},
		{"08ffffffffffffffff", one().Signed(math.MinInt64)},
		{"08fffffffffffffffe", one().Signed(math.MaxInt64)},
		{"00010161", one().Text("", "a")},
		{"0101020201010003000301", one().Value(value.Int(1), value.Text("\x00"), value.Bool(false), value.Bool(true))},
		{"010001000100", one().Value(api.Value{}, long, api.Value{Kind: 3, N: 2})},
		{"01020101020301", one().Row(value.Int(1), value.Bool(true))},
		{"0000", one().Row().Rows()},
		{"010200" + "01010300", one().Rows(nil, []api.Value{value.Bool(false)})},
	} {
		if got := hex.EncodeToString([]byte(c.w.String())); got != c.want || c.w.Len() != len(got)/2 {
			t.Errorf("%s, not %s", got, c.want)
		}
	}
	w := one()
	if w.Size(1) != w || w.Signed(1) != w || w.Text("") != w || w.Value() != w || w.Row() != w || w.Rows() != w {
		t.Error("a call answers its writer")
	}
}

// P4.1, P4.2, P4.3
func TestNil(t *testing.T) {
	var b *Bytes
	var w *Writer
	var r *Reader
	if b.Len() != 0 || b.String() != "" || w.Len() != 0 || w.String() != "" || r.Len() != 0 || r.String() != "" {
		t.Error("nil has no bytes")
	}
	if w.Size(1) != nil || w.Signed(1) != nil || w.Text("a") != nil || w.Value(value.Int(1)) != nil || w.Row(value.Int(1)) != nil || w.Rows(nil) != nil {
		t.Error("a nil writer answers itself")
	}
	r.Fail()
	if r.Good() || r.End() || r.Size(9) != 0 || r.Signed() != 0 || r.Text(9) != "" || r.Value() != (api.Value{}) || r.Row(9) != nil || r.Rows(9, 9) != nil {
		t.Error("a nil reader is bad")
	}
}

// P4.3
func TestReader(t *testing.T) {
	r := unhex("02012c" + "0101" + "010161" + "ff")
	if r.Len() != 9 || r.Size(300) != 300 || r.Signed() != -1 || r.String() != "\x01\x01a\xff" || r.Text(1) != "a" || !r.Good() || r.End() {
		t.Error("one behind the other")
	}
	r = unhex("020102")
	if r.Size(9) != 0 || r.Good() || r.Len() != 0 || r.String() != "" {
		t.Error("02 01 02 is 258")
	}
	r = unhex("0102" + "0102" + "0200" + "0301")
	if got := r.Rows(2, 2); got != nil || r.Good() {
		t.Error("cut off", got)
	}
	r = unhex("0102" + "0102" + "0200" + "0301" + "00")
	if r.Rows(2, 1) != nil || r.Good() {
		t.Error("a row of two, of at most one")
	}
	r = unhex("0102" + "0102" + "0200" + "0301" + "00")
	if got := r.Rows(2, 2); !reflect.DeepEqual(got, [][]api.Value{{value.Text(""), value.Bool(true)}, nil}) || !r.End() {
		t.Error(got)
	}
	if r := unhex("087fffffffffffffff"); r.Size(math.MaxInt) != math.MaxInt || !r.End() {
		t.Error("the greatest size")
	}
	r = unhex("00")
	if r.Row(0) != nil || !r.End() {
		t.Error("an empty row")
	}
	r.Fail()
	if r.Good() || r.End() {
		t.Error("Fail")
	}
}

// P4.3: wrong bytes, each for one call
func TestBad(t *testing.T) {
	size := func(most int) func(*Reader) bool { return func(r *Reader) bool { return r.Size(most) == 0 } }
	text := func(r *Reader) bool { return r.Text(2) == "" }
	one := func(r *Reader) bool { return r.Value() == api.Value{} }
	row := func(r *Reader) bool { return r.Row(2) == nil }
	for _, c := range []struct {
		bytes string
		take  func(*Reader) bool
	}{
		{"", size(9)}, {"01", size(9)}, {"0100", size(9)}, {"0109", size(8)}, {"00", size(-1)}, {"09010000000000000000", size(math.MaxInt64)},
		{"088000000000000000", size(math.MaxInt64)}, {"02000a", size(99)}, {"0201", size(999)},
		{"", func(r *Reader) bool { return r.Signed() == 0 }}, {"0100", func(r *Reader) bool { return r.Signed() == 0 }}, {"09" + "010101010101010101", func(r *Reader) bool { return r.Signed() == 0 }},
		{"", text}, {"0103616161", text}, {"010261", text},
		{"", one}, {"00", one}, {"04", one}, {"01", one}, {"03", one}, {"0302", one}, {"0201c9" + strings.Repeat("61", 201), one},
		{"0103" + "030003000300", row}, {"0101", row}, {"01020300", row}, {"01010302", row},
		{"0101", func(r *Reader) bool { return r.Rows(1, 1) == nil }}, {"0102" + "0000", func(r *Reader) bool { return r.Rows(1, 1) == nil }},
		{"087fffffffffffffff", func(r *Reader) bool { return r.Rows(math.MaxInt, math.MaxInt) == nil }},
	} {
		r := unhex(c.bytes)
		if !c.take(r) || r.Good() || r.End() || r.Len() != 0 {
			t.Errorf("%s isn't bad", c.bytes)
		}
		if r.Size(9) != 0 || r.Signed() != 0 || r.Text(9) != "" || r.Value() != (api.Value{}) || r.Row(9) != nil || r.Rows(9, 9) != nil {
			t.Errorf("%s: a bad reader answers", c.bytes)
		}
	}
}

// P4.4
func TestThereAndBack(t *testing.T) {
	r := rand.New(rand.NewSource(1))
	one := func() api.Value {
		switch r.Intn(3) {
		case 0:
			return value.Int(int64(r.Uint64()) >> r.Intn(64))
		case 1:
			return value.Text(strings.Repeat("\x00", r.Intn(201)))
		}
		return value.Bool(r.Intn(2) == 0)
	}
	for range 400 {
		var rows [][]api.Value
		for range r.Intn(4) {
			var l []api.Value
			for range r.Intn(4) {
				l = append(l, one())
			}
			rows = append(rows, l)
		}
		n, s := int(r.Uint64()>>(1+r.Intn(63))), int64(r.Uint64())
		all := new(Writer).Size(n).Signed(s).Text("x\x00").Rows(rows...).Row(one()).String()
		x := Read(all)
		if x.Size(math.MaxInt) != n || x.Signed() != s || x.Text(2) != "x\x00" || !reflect.DeepEqual(x.Rows(3, 3), rows) || len(x.Row(1)) != 1 || !x.End() {
			t.Fatal("there and back")
		}
		for _, cut := range []int{r.Intn(len(all)), len(all) - 1} {
			x := Read(all[:cut])
			if x.Size(math.MaxInt); x.Good() {
				x.Signed()
				x.Text(2)
				x.Rows(3, 3)
				x.Row(1)
			}
			if x.Good() {
				t.Fatal("cut off it is bad")
			}
		}
	}
}
