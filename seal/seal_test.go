package seal_test

import (
	"hash/crc64"
	"math/rand"
	"strings"
	"testing"

	. "afflux/seal"
)

func bytesOf(r *rand.Rand, n int) string {
	b := make([]byte, n)
	r.Read(b)
	return string(b)
}

// P5.1
func TestSum(t *testing.T) {
	if Of("123456789") != 0x995dc9bbdf1939fa || Of("1234", "", "56789") != Of("123456789") || Of() != 0 || Of("") != 0 {
		t.Errorf("%x", Of("123456789"))
	}
	r := rand.New(rand.NewSource(1))
	ecma := crc64.MakeTable(crc64.ECMA)
	for n := range 600 {
		s := bytesOf(r, n)
		if Of(s) != crc64.Checksum([]byte(s), ecma) {
			t.Fatalf("%d bytes", n)
		}
	}
	var s Sum
	if s.Value() != 0 || s.Add("12") != &s || s.Add("345", "6789").Value() != 0x995dc9bbdf1939fa {
		t.Error("a Sum")
	}
	var none *Sum
	if none.Add("x") != nil || none.Value() != 0 {
		t.Error("nil")
	}
}

// P5.2
func TestFrame(t *testing.T) {
	f, ok := Frame("a", "", "bc")
	if !ok || f[:7] != "\x00\x00\x00\x03abc" || len(f) != 15 {
		t.Errorf("%q", f)
	}
	sum := Of(f[:7])
	for i := range 8 {
		if f[7+i] != byte(sum>>(8*i)) {
			t.Errorf("%q: the lowest byte first", f)
		}
	}
	if body, n, kind := Open(f + "x"); body != "abc" || n != 15 || kind != Whole {
		t.Error(body, n, kind)
	}
	for i := range len(f) {
		if body, n, kind := Open(f[:i]); body != "" || n != 0 || kind != Short {
			t.Error(i, body, n, kind)
		}
	}
	empty, ok := Frame()
	if body, n, kind := Open(empty); !ok || body != "" || n != 12 || kind != Whole {
		t.Error("an empty frame")
	}
	long := strings.Repeat("x", MaxBody)
	if f, ok := Frame(long, "y"); f != "" || ok {
		t.Error("too long")
	}
	f, ok = Frame(long[1:], "y")
	if body, n, kind := Open(f); !ok || body != long[1:]+"y" || n != MaxBody+12 || kind != Whole {
		t.Error("the longest")
	}
	for head, want := range map[string]int{"\x00\x01\x00\x01": Bad, "\xff\xff\xff\xff": Bad, "\x00\x01\x00\x00": Short, "\x00\x00\x00\x00" + "12345678": Bad} {
		if body, n, kind := Open(head); body != "" || n != 0 || kind != want {
			t.Errorf("%q: %d", head, kind)
		}
	}
}

// P5.3
func TestAll(t *testing.T) {
	a, _ := Frame("a")
	b, _ := Frame("")
	for _, c := range []struct {
		s          string
		count, end int
		kind       int
	}{
		{"", 0, 0, Whole}, {a, 1, 13, Whole}, {a + b + a, 3, 38, Whole}, {a + b[:11], 1, 13, Short}, {a + a[:2], 1, 13, Short},
		{a + "\xff" + a, 1, 13, Bad}, {a + a[:12] + "\x00" + a, 1, 13, Bad},
	} {
		l, end, kind := All(c.s)
		if len(l) != c.count || end != c.end || kind != c.kind || c.count == 3 && strings.Join(l, ",") != "a,,a" {
			t.Errorf("%q: %q, %d, %d", c.s, l, end, kind)
		}
	}
}

// P5.4
func TestBursts(t *testing.T) {
	r := rand.New(rand.NewSource(2))
	for range 3000 {
		f, _ := Frame(bytesOf(r, r.Intn(40)))
		b := []byte(f)
		from := 32 + r.Intn(len(b)*8-32)
		mask := r.Uint64() | 1
		for i := range min(64, len(b)*8-from) {
			if at := from + i; mask>>i&1 == 1 {
				b[at/8] ^= 1 << (at % 8)
			}
		}
		if _, _, kind := Open(string(b)); kind != Bad {
			t.Fatalf("%q, spoilt as %q, is opened", f, b)
		}
		if Of(string(b[:len(b)-8])) == Of(f[:len(f)-8]) && string(b[:len(b)-8]) != f[:len(f)-8] {
			t.Fatal("another text has the same sum")
		}
	}
}
