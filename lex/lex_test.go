package lex_test

import (
	"reflect"
	"strings"
	"testing"

	"afflux/api"
	. "afflux/lex"
)

func kinds(s string) string {
	l, at, e := Words(s)
	if e != api.OK || at != 0 {
		return "wrong"
	}
	var b strings.Builder
	for _, w := range l {
		b.WriteByte("SNTW"[w.Kind])
		b.WriteString(w.Text)
		b.WriteByte('|')
	}
	return b.String()
}

// P11.1
func TestWords(t *testing.T) {
	long := strings.Repeat("x", 200)
	for s, want := range map[string]string{
		"":                           "",
		" \t\n// x ' !\n//":          "",
		"a>='it''s'":                 "Wa|S>=|Tit's|",
		"<= <=<==!=>=>==":            "S<=|S<=|S<=|S=|S!=|S>=|S>=|S=|",
		"(){}[],;:.+-*/%":            "S(|S)|S{|S}|S[|S]|S,|S;|S:|S.|S+|S-|S*|S/|S%|",
		"a/b//c\nd":                  "Wa|S/|Wb|Wd|",
		"-12":                        "S-|N12|",
		"0.0":                        "N0|S.|N0|",
		"z az0z <=":                  "Wz|Waz0z|S<=|",
		"9223372036854775807":        "N9223372036854775807|",
		"''''":                       "T'|",
		"'//'":                       "T//|",
		"'a''b''c'":                  "Ta'b'c|",
		"'a'b'c'12'd'":               "Ta|Wb|Tc|N12|Td|",
		"abcdefghijklmno_ a1_":       "Wabcdefghijklmno_|Wa1_|",
		"'" + long + "'":             "T" + long + "|",
		"'" + long[1:] + "'''":       "T" + long[1:] + "'|",
		"'\xff\x00'":                 "T\xff\x00|",
		strings.Repeat("a ", 4000):   strings.Repeat("Wa|", 4000),
		strings.Repeat(" ", 7999):    "",
		strings.Repeat("\n", 8000):   "",
		"true and where":             "Wtrue|Wand|Wwhere|",
		"x// to the end of the text": "Wx|",
	} {
		if got := kinds(s); got != want {
			t.Errorf("%q: %s, not %s", s, got, want)
		}
	}
}

// P11.1
func TestWordFields(t *testing.T) {
	l, _, _ := Words("ab 'c''d'\n>= 07"[:13] + " 70")
	want := []Word{{Name, "ab", 0, 0}, {Text, "c'd", 0, 3}, {Sign, ">=", 0, 10}, {Number, "70", 70, 14}}
	if !reflect.DeepEqual(l, want) {
		t.Error(l)
	}
}

// P11.1
func TestNoWords(t *testing.T) {
	for s, place := range map[string]int{
		"a !": 2, "a ! b": 2, "A": 0, "x A": 2, "_": 0, "007": 0, "x 12a": 2, "x 12A": 2, "x 12z": 2, "x 12Z": 2, "x aZ": 2, "x 1_": 2, "a 9223372036854775808": 2, "abcdefghijklmnopq": 0, "x aB": 2,
		"'": 0, "x 'a": 2, "x 'a''": 2, "x 'a\n'": 2, "'a' 'b\n": 4, "'" + strings.Repeat("x", 201) + "'": 0, "#": 0, "a\r": 1, "\xe4": 0, "\x00": 0, "a \"b\"": 2, "&": 0,
	} {
		if l, at, e := Words(s); l != nil || at != place || e != api.ErrParse {
			t.Errorf("%q: %v, %d, %d", s, l, at, e)
		}
	}
	if l, at, e := Words(strings.Repeat("!", 8001)); l != nil || at != 0 || e != api.ErrLong {
		t.Error("too long")
	}
}

// P11.2
func TestCursor(t *testing.T) {
	l, _, _ := Words("let x = 'let' 12 ;")
	c := On(l, 18)
	l[0].Text = "spoilt"
	if c.Left() != 6 || c.Word() != (Word{Name, "let", 0, 0}) || !c.Is("a", "let") || c.Is("a", "b") || c.Is() || !c.Take() || c.Left() != 6 {
		t.Error("at the beginning")
	}
	if c.Take("let", "y") || c.Take("let", "x", "=", "let") || c.Left() != 6 || !c.Take("let", "x") || c.Left() != 4 {
		t.Error("Take")
	}
	if w, ok := c.Kind(Name); w != (Word{}) || ok {
		t.Error("a sign is no name")
	}
	if w, ok := c.Kind(Sign); w.Text != "=" || !ok {
		t.Error("Kind", w)
	}
	if c.Is("let") || c.Take("let") || c.Word().Kind != Text {
		t.Error("a text's words aren't")
	}
	c.Kind(Text)
	if c.Is("12") || c.Take("12") {
		t.Error("a number isn't, either")
	}
	if w, ok := c.Kind(Number); w.N != 12 || !ok {
		t.Error("Kind", w)
	}
	if !c.Take(";") || c.Left() != 0 || c.Word() != (Word{Kind: End, At: 18}) || c.Is("") || c.Take(";") || !c.Take() {
		t.Error("at the end")
	}
	if w, ok := c.Kind(End); w != (Word{}) || ok {
		t.Error("of End, too")
	}
}

// P11.2
func TestNilCursor(t *testing.T) {
	var c *Cursor
	w, ok := c.Kind(End)
	if c.Word() != (Word{Kind: End}) || c.Is("") || c.Take() || c.Take("a") || w != (Word{}) || ok || c.Left() != 0 {
		t.Error("nil")
	}
}
