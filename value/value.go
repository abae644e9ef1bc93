// Package value is layer 2: numbers, texts, truths, and rows of them.
package value

import (
	"cmp"
	"slices"
	"strings"

	"afflux/api"
	"afflux/calc"
)

// Int is a number.
func Int(n int64) api.Value {
	return api.Value{Kind: api.KInt, N: n}
}

// Text is a text.
func Text(s string) api.Value {
	return api.Value{Kind: api.KText, S: s}
}

// Bool is a truth.
func Bool(b bool) api.Value {
	v := api.Value{Kind: api.KBool}
	if b {
		v.N = 1
	}
	return v
}

// Right tells whether values are right.
func Right(l ...api.Value) bool {
	for _, v := range l {
		if !right(v) {
			return false
		}
	}
	return true
}

func right(v api.Value) bool {
	switch v.Kind {
	case api.KInt:
		return v == Int(v.N)
	case api.KText:
		return v == Text(v.S) && len(v.S) <= api.MaxText
	case api.KBool:
		return v == Bool(v.N == 1)
	}
	return false
}

// Cmp is which of two values stands first.
func Cmp(a, b api.Value) int {
	return cmp.Or(cmp.Compare(a.Kind, b.Kind), cmp.Compare(a.N, b.N), strings.Compare(a.S, b.S))
}

// Rows is which of two rows stands first.
func Rows(a, b []api.Value) int {
	return slices.CompareFunc(a, b, Cmp)
}

// Key is a row's key.
func Key(l ...api.Value) string {
	if !Right(l...) {
		return ""
	}
	var b []byte
	for _, v := range l {
		b = appendKey(b, v)
	}
	return string(b)
}

func appendKey(b []byte, v api.Value) []byte {
	b = append(b, byte(v.Kind))
	switch v.Kind {
	case api.KInt:
		n := uint64(v.N) + 1<<63
		for i := range 8 {
			b = append(b, byte(n>>(56-8*i)))
		}
	case api.KText:
		for i := range len(v.S) {
			b = append(b, v.S[i])
			if v.S[i] == 0 {
				b = append(b, 0xff)
			}
		}
		b = append(b, 0, 1)
	default:
		b = append(b, byte(v.N))
	}
	return b
}

// Unkey is the row of a key.
func Unkey(s string) ([]api.Value, bool) {
	var row []api.Value
	for s != "" {
		v, n := firstOfKey(s)
		if n == 0 {
			return nil, false
		}
		row = append(row, v)
		s = s[n:]
	}
	return row, true
}

// firstOfKey is the first value of a key, and how many bytes it has there; 0: there is none.
func firstOfKey(s string) (api.Value, int) {
	switch {
	case s[0] == api.KInt && len(s) >= 9:
		var n uint64
		for i := range 8 {
			n = n<<8 | uint64(s[1+i])
		}
		return Int(int64(n - 1<<63)), 9
	case s[0] == api.KText:
		return textOfKey(s)
	case s[0] == api.KBool && len(s) >= 2 && s[1] <= 1:
		return Bool(s[1] == 1), 2
	}
	return api.Value{}, 0
}

func textOfKey(s string) (api.Value, int) {
	var b []byte
	for i := 1; i < len(s); i++ {
		if s[i] != 0 {
			b = append(b, s[i])
			continue
		}
		i++
		if i == len(s) {
			break
		}
		switch s[i] {
		case 0xff:
			b = append(b, 0)
			continue
		case 1:
			if v := Text(string(b)); right(v) {
				return v, i + 1
			}
		}
		break
	}
	return api.Value{}, 0
}

// Print is a value's print.
func Print(v api.Value) string {
	if !right(v) {
		return ""
	}
	switch v.Kind {
	case api.KInt:
		return calc.Print(v.N)
	case api.KText:
		return "'" + strings.ReplaceAll(v.S, "'", "''") + "'"
	}
	if v.N == 1 {
		return "true"
	}
	return "false"
}

// Parse is the value of a print.
func Parse(s string) (api.Value, api.Errno) {
	v := read(s)
	if s == "" || Print(v) != s {
		return api.Value{}, api.ErrParse
	}
	return v, api.OK
}

// read is the value that a text may be the print of.
func read(s string) api.Value {
	switch {
	case s == "true" || s == "false":
		return Bool(s == "true")
	case len(s) >= 2 && s[0] == '\'':
		return Text(strings.ReplaceAll(s[1:len(s)-1], "''", "'"))
	}
	if n, e := calc.Parse(s); e == api.OK {
		return Int(n)
	}
	return api.Value{}
}

// Line is the prints of values.
func Line(l ...api.Value) string {
	var b strings.Builder
	for i, v := range l {
		if i > 0 {
			b.WriteString(", ")
		}
		b.WriteString(Print(v))
	}
	return b.String()
}

// Spread is a place for a value, of so many.
func Spread(v api.Value, n int) int {
	if n < 1 {
		return 0
	}
	switch v.Kind {
	case api.KInt, api.KBool:
		r, _ := calc.Mod(v.N, int64(n))
		return int(r)
	case api.KText:
		return weight(v.S, uint64(n))
	}
	return 0
}

// weight is the remainder of the sum of a text's bytes, each times its place.
func weight(s string, n uint64) int {
	var sum uint64
	for i := range len(s) {
		sum = (sum + uint64(s[i])*uint64(i+1)%n) % n
	}
	return int(sum)
}
