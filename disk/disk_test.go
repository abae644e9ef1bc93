package disk_test

import (
	"fmt"
	"reflect"
	"strings"
	"testing"

	"afflux/api"
	. "afflux/disk"
)

func want(t *testing.T, what string, have, e api.Errno) {
	t.Helper()
	if have != e {
		t.Errorf("%s: %d, not %d", what, have, e)
	}
}

func holds(t *testing.T, d *Disk, name, data string, kept int) {
	t.Helper()
	if s, e := d.Read(name); s != data || e != api.OK || d.Kept(name) != kept {
		t.Errorf("%s: %q, %d, %d kept", name, s, e, d.Kept(name))
	}
}

// P6.1
func TestPower(t *testing.T) {
	if New(-1) != nil || New(1<<24+1) != nil || New(0) == nil || New(1<<24) == nil {
		t.Error("rooms")
	}
	d := New(10)
	if !d.On() || d.Uses() != 0 || d.Used() != 0 || d.Free() != 10 || d.Names() != nil {
		t.Error("an empty disk")
	}
	d.Append("", "x")
	d.Sync("a")
	d.Put("a", "")
	d.Read("a")
	if d.Uses() != 2 {
		t.Error("errors are uses, Put and Read aren't", d.Uses())
	}
	d.Arm(1)
	want(t, "first use", d.Append("a", "x"), api.OK)
	want(t, "the use by which it goes off", d.Append("a", "y"), api.ErrOff)
	if d.On() || d.Uses() != 4 {
		t.Error("off", d.Uses())
	}
	want(t, "off", d.Sync(""), api.ErrOff)
	if _, e := d.Read("a"); e != api.ErrOff || d.Uses() != 4 || d.Used() != 1 || len(d.Names()) != 1 {
		t.Error("while it is off")
	}
	d.Arm(0)
	d.Crash(1)
	want(t, "not armed", d.Append("a", "z"), api.OK)
	holds(t, d, "a", "xz", 1)
	d.Arm(-7)
	want(t, "armed with less than 0", d.Delete("a"), api.ErrOff)
	d.Crash()
	d.Arm(0)
	d.Arm(5)
	want(t, "armed anew", d.Sync("a"), api.OK)
	var p *Power
	p.Arm(1)
	if p.On() || p.Uses() != 0 {
		t.Error("nil power")
	}
}

// P6.1 to P6.4 of a nil disk
func TestNil(t *testing.T) {
	var d *Disk
	d.Arm(1)
	d.Crash(1)
	s, e := d.Read("a")
	if d.On() || d.Uses() != 0 || s != "" || d.Names("a") != nil || d.Kept("a") != 0 || d.Used() != 0 || d.Free() != 0 {
		t.Error("nil")
	}
	for _, e := range []api.Errno{e, d.Append("a"), d.Sync(), d.Rename("a", "b"), d.Delete("a"), d.Cut("a", 0), d.Put("a", "")} {
		want(t, "nil", e, api.ErrArg)
	}
}

// P6.2
func TestAppendSync(t *testing.T) {
	d := New(1 << 22)
	long := strings.Repeat("n", 21)
	want(t, "no name", d.Append("", "x"), api.ErrArg)
	want(t, "a long name", d.Append(long, "x"), api.ErrArg)
	want(t, "the longest name", d.Append(long[1:], "a", "", "b"), api.OK)
	want(t, "nothing", d.Append("e"), api.OK)
	holds(t, d, long[1:], "ab", 0)
	holds(t, d, "e", "", 0)
	want(t, "one isn't there", d.Sync("e", long[1:], "zz"), api.ErrNone)
	want(t, "one may not be", d.Sync("zz", ""), api.ErrArg)
	holds(t, d, long[1:], "ab", 0)
	want(t, "none", d.Sync(), api.OK)
	want(t, "two", d.Sync(long[1:], "e"), api.OK)
	holds(t, d, long[1:], "ab", 2)
	big := strings.Repeat("x", api.MaxFile)
	want(t, "too long", d.Append("b", big, "y"), api.ErrLong)
	want(t, "the longest", d.Append("b", big), api.OK)
	want(t, "one more", d.Append("b", "y"), api.ErrLong)
	small := New(5)
	want(t, "too much", small.Append("a", "123456"), api.ErrFull)
	if small.Names() != nil {
		t.Error("a file was made")
	}
	want(t, "all", small.Append("a", "123", "45"), api.OK)
	want(t, "one more", small.Append("c", "6"), api.ErrFull)
	want(t, "long ahead of full", small.Append("c", big, big), api.ErrLong)
	if small.Free() != 0 || small.Used() != 5 {
		t.Error(small.Free())
	}
}

// P6.2, P6.3
func TestManyFiles(t *testing.T) {
	d := New(10)
	for i := range api.MaxFiles {
		want(t, "a file", d.Append(fmt.Sprintf("f%03d", i)), api.OK)
	}
	want(t, "one too many", d.Append("g"), api.ErrLong)
	want(t, "one too many", d.Put("g", ""), api.ErrLong)
	want(t, "one that is there", d.Append("f007", "x"), api.OK)
	want(t, "one that is there", d.Put("f007", "xy"), api.OK)
	want(t, "renamed", d.Rename("f007", "f008"), api.OK)
	want(t, "one fewer", d.Append("g"), api.OK)
}

// P6.2
func TestRenameDeleteCut(t *testing.T) {
	d := New(100)
	d.Append("a", "12345")
	d.Sync("a")
	d.Append("a", "67")
	d.Append("b", "b")
	want(t, "none", d.Rename("x", "a"), api.ErrNone)
	want(t, "wrong", d.Rename("a", ""), api.ErrArg)
	want(t, "itself", d.Rename("a", "a"), api.OK)
	holds(t, d, "a", "1234567", 5)
	want(t, "another", d.Rename("a", "b"), api.OK)
	holds(t, d, "b", "1234567", 5)
	if d.Used() != 7 || !reflect.DeepEqual(d.Names(), []string{"b"}) {
		t.Error("what had it is no more")
	}
	want(t, "none", d.Cut("a", 0), api.ErrNone)
	want(t, "below", d.Cut("b", -1), api.ErrArg)
	want(t, "above", d.Cut("b", 8), api.ErrArg)
	want(t, "6", d.Cut("b", 6), api.OK)
	holds(t, d, "b", "123456", 5)
	want(t, "2", d.Cut("b", 2), api.OK)
	holds(t, d, "b", "12", 2)
	d.Append("b", "z")
	holds(t, d, "b", "12z", 2)
	want(t, "all", d.Cut("b", 3), api.OK)
	holds(t, d, "b", "12z", 2)
	want(t, "nothing", d.Cut("b", 0), api.OK)
	holds(t, d, "b", "", 0)
	d.Append("b", "zz")
	want(t, "none", d.Delete("a"), api.ErrNone)
	want(t, "wrong", d.Delete(""), api.ErrArg)
	want(t, "there", d.Delete("b"), api.OK)
	if s, e := d.Read("b"); s != "" || e != api.ErrNone || d.Kept("b") != 0 {
		t.Error("it is no more")
	}
}

// P6.3
func TestReadNamesPut(t *testing.T) {
	d := New(10)
	for _, n := range []string{"b.2", "a.1", "b.1", "c"} {
		d.Append(n, n[:1])
	}
	for _, c := range []struct{ fronts, names []string }{
		{nil, []string{"a.1", "b.1", "b.2", "c"}}, {[]string{"b."}, []string{"b.1", "b.2"}}, {[]string{"c", "b.2", "b"}, []string{"b.1", "b.2", "c"}}, {[]string{"x"}, nil}, {[]string{""}, []string{"a.1", "b.1", "b.2", "c"}},
	} {
		if l := d.Names(c.fronts...); !reflect.DeepEqual(l, c.names) {
			t.Error(c.fronts, l)
		}
	}
	want(t, "wrong", d.Put("", "x"), api.ErrArg)
	want(t, "long", d.Put("c", strings.Repeat("x", api.MaxFile+1)), api.ErrLong)
	want(t, "full", d.Put("c", "12345678"), api.ErrFull)
	holds(t, d, "c", "c", 0)
	want(t, "instead", d.Put("c", "1234567"), api.OK)
	holds(t, d, "c", "1234567", 7)
	d.Arm(0)
	d.Delete("c")
	want(t, "while it is off", d.Put("c", "x"), api.OK)
	d.Crash()
	holds(t, d, "c", "x", 1)
}

// A disk that New didn't make: nothing is promised, but that no call panics.
func TestZeroDisk(t *testing.T) {
	new(Disk).Append("a")
	new(Disk).Put("a", "")
}

// P6.4
func TestCrash(t *testing.T) {
	d := New(100)
	d.Append("a", "xy")
	d.Sync("a")
	d.Append("a", "zw")
	d.Append("b", "123")
	d.Append("c", "456")
	d.Append("d", "789")
	d.Crash(1, -3, 9)
	holds(t, d, "a", "xyz", 3)
	holds(t, d, "b", "", 0)
	holds(t, d, "c", "456", 3)
	holds(t, d, "d", "", 0)
	d.Crash()
	holds(t, d, "a", "xyz", 3)
}
