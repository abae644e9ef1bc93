package snap_test

import (
	"fmt"
	"reflect"
	"strings"
	"testing"

	"afflux/api"
	"afflux/codec"
	"afflux/disk"
	"afflux/seal"
	. "afflux/snap"
)

func want(t *testing.T, what string, have, e api.Errno) {
	t.Helper()
	if have != e {
		t.Errorf("%s: %d, not %d", what, have, e)
	}
}

func loads(t *testing.T, d *disk.Disk, n int, data string, e api.Errno) {
	t.Helper()
	if m, s, err := Load(d); m != n || s != data || err != e {
		t.Errorf("Load: %d, %d bytes, %d", m, len(s), err)
	}
}

func frame(s string) string {
	f, _ := seal.Frame(s)
	return f
}

func sizes(l ...int) string { return new(codec.Writer).Size(l...).String() }

// P26.1
func TestNameNeed(t *testing.T) {
	for n, name := range map[int]string{0: "s.00000000", 99999999: "s.99999999", 1234: "s.00001234", -1: "", 100000000: ""} {
		if Name(n) != name {
			t.Error(n, Name(n))
		}
	}
	for _, size := range []int{0, 1, 255, 256, 59999, 60000, 60001, 120000, 120001} {
		data := strings.Repeat("x", size)
		d := disk.New(1 << 20)
		want(t, "Save", Save(d, 99999999, data), api.OK)
		if Need(data) != d.Used() || Need(data[:size/2], "", data[size/2:]) != d.Used() {
			t.Error(size, Need(data), d.Used())
		}
		loads(t, d, 99999999, data, api.OK)
	}
	if Need() != Need("") {
		t.Error("of nothing")
	}
}

// P26.1
func TestSave(t *testing.T) {
	d := disk.New(1 << 24)
	want(t, "no disk", Save(nil, 1), api.ErrArg)
	want(t, "below", Save(d, -1), api.ErrArg)
	want(t, "above", Save(d, 100000000), api.ErrArg)
	want(t, "5", Save(d, 5, "a", "", "b"), api.OK)
	if !reflect.DeepEqual(d.Names(), []string{"mark", "s.00000005"}) || d.Kept("mark") != 14 || d.Uses() != 7 {
		t.Error(d.Names(), d.Kept("mark"), d.Uses())
	}
	if s, _ := d.Read("s.00000005"); s != frame(sizes(5, 2))+frame("ab") || d.Kept("s.00000005") != len(s) {
		t.Errorf("%q", s)
	}
	if s, _ := d.Read("mark"); s != frame(sizes(5)) {
		t.Errorf("%q", s)
	}
	want(t, "twice", Save(d, 5, strings.Repeat("x", 960001)), api.ErrTwice)
	want(t, "too long", Save(d, 6, strings.Repeat("x", 960000), "x"), api.ErrLong)
	d.Put("s.other", "x")
	d.Put("s.00000007", "x")
	d.Put("mark.new", "x")
	d.Put("t", "x")
	want(t, "7, whose file is there", Save(d, 7, strings.Repeat("x", 960000)), api.OK)
	if !reflect.DeepEqual(d.Names(), []string{"mark", "s.00000007", "t"}) {
		t.Error(d.Names())
	}
	loads(t, d, 7, strings.Repeat("x", 960000), api.OK)
	want(t, "a lower number", Save(d, 2), api.OK)
	loads(t, d, 2, "", api.OK)
	d.Arm(0)
	d.Sync()
	want(t, "off", Save(d, 2, strings.Repeat("x", 960001)), api.ErrOff)
}

// P26.1
func TestSaveFull(t *testing.T) {
	for more, e := range map[int]api.Errno{0: api.OK, -1: api.ErrFull} {
		d := disk.New(Need("abc") + 1 + more)
		d.Append("x", "y")
		uses := d.Uses()
		want(t, "room", Save(d, 3, "abc"), e)
		if e != api.OK && d.Uses() != uses {
			t.Error("nothing is done")
		}
	}
	for files, e := range map[int]api.Errno{97: api.OK, 98: api.ErrFull} {
		d := disk.New(1000)
		for i := range files {
			d.Append(fmt.Sprint("f", i))
		}
		want(t, "files", Save(d, 3, "abc"), e)
	}
	for _, spoilt := range []string{"spoilt", frame(sizes(0, 0)), frame(sizes(100000000)), frame(sizes(0)) + "x"} {
		d := disk.New(1000)
		d.Put("mark", spoilt)
		want(t, "none counts", Save(d, 0), api.OK)
	}
}

// P26.2
func TestLoad(t *testing.T) {
	loads(t, nil, 0, "", api.ErrArg)
	d := disk.New(1 << 22)
	loads(t, d, 0, "", api.ErrNone)
	d.Put("s.00000001", frame(sizes(1, 0)))
	loads(t, d, 0, "", api.ErrNone)
	full := strings.Repeat("x", PieceSize)
	head := func(n, size int) string { return frame(sizes(n, size)) }
	for what, c := range map[string]struct{ mark, file string }{
		"an empty mark": {"", head(1, 0)}, "a short mark": {frame(sizes(1))[:13], head(1, 0)}, "two marks": {frame(sizes(1)) + frame(sizes(1)), head(1, 0)}, "more": {frame(sizes(1)) + "x", head(1, 0)}, "no number": {frame(""), head(1, 0)},
		"two numbers": {frame(sizes(1, 1)), head(1, 0)}, "too great": {frame(sizes(100000000)), head(1, 0)}, "no file": {frame(sizes(2)), head(1, 0)}, "an empty file": {frame(sizes(1)), ""}, "another number": {frame(sizes(1)), head(2, 0)},
		"no head": {frame(sizes(1)), frame("ab")}, "a long head": {frame(sizes(1)), frame(sizes(1, 0, 0))}, "too few": {frame(sizes(1)), head(1, 3) + frame("ab")}, "too many": {frame(sizes(1)), head(1, 1) + frame("ab")}, "a piece of nothing": {frame(sizes(1)), head(1, 0) + frame("")},
		"a piece of nothing behind": {frame(sizes(1)), head(1, 2) + frame("ab") + frame("")}, "short pieces": {frame(sizes(1)), head(1, 2) + frame("a") + frame("b")}, "behind the pieces": {frame(sizes(1)), head(1, 2) + frame("ab") + "z"}, "a long piece": {frame(sizes(1)), head(1, PieceSize+1) + frame(full+"x")},
		"cut off": {frame(sizes(1)), head(1, 2) + frame("ab")[:13]}, "spoilt": {frame(sizes(1)), head(1, 2) + frame("ab")[:4] + "ac" + frame("ab")[6:]},
	} {
		d.Put("mark", c.mark)
		d.Put("s.00000001", c.file)
		if m, s, e := Load(d); m != 0 || s != "" || e != api.ErrCorrupt {
			t.Error(what, e)
		}
		if n, e := Sweep(d); n != 0 || e != api.ErrCorrupt {
			t.Error(what, "swept", e)
		}
	}
	d.Put("s.00000001", head(1, PieceSize+2)+frame(full)+frame("ab"))
	d.Put("mark", frame(sizes(1)))
	loads(t, d, 1, full+"ab", api.OK)
	d.Arm(0)
	d.Sync()
	loads(t, d, 0, "", api.ErrOff)
}

// P26.2
func TestSweep(t *testing.T) {
	if n, e := Sweep(nil); n != 0 || e != api.ErrArg {
		t.Error("no disk")
	}
	d := disk.New(1000)
	if n, e := Sweep(d); n != 0 || e != api.ErrNone {
		t.Error("no mark")
	}
	Save(d, 1, "a")
	if n, e := Sweep(d); n != 0 || e != api.OK {
		t.Error("nothing to sweep")
	}
	for _, name := range []string{"s.", "s.00000000", "s.x", "mark.new", "mark.new2", "t", "log.00000000"} {
		d.Put(name, "x")
	}
	if n, e := Sweep(d); n != 4 || e != api.OK || !reflect.DeepEqual(d.Names(), []string{"log.00000000", "mark", "mark.new2", "s.00000001", "t"}) {
		t.Error(n, e, d.Names())
	}
	d.Put("s.x", "x")
	d.Arm(0)
	if n, e := Sweep(d); n != 0 || e != api.ErrOff {
		t.Error("the disk's error", n, e)
	}
}

// P26.3, P2 of the whole: crashes at any use within Save
func TestCrashes(t *testing.T) {
	for _, keep := range []int{0, 7, 1000000} {
		for at := 0; ; at++ {
			d := disk.New(1 << 20)
			Save(d, 1, "old")
			d.Put("mark.new", "junk")
			d.Arm(at)
			e := Save(d, 2, "new", strings.Repeat("x", 70000))
			var l []int
			for range d.Names() {
				l = append(l, keep)
			}
			d.Crash(l...)
			n, s, err := Load(d)
			if err != api.OK || n == 1 && s != "old" || n == 2 && len(s) != 70003 || n == 1 && e == api.OK {
				t.Fatal(at, n, e, err)
			}
			if _, e := Sweep(d); e != api.OK || len(d.Names()) != 2 {
				t.Fatal("swept", d.Names())
			}
			if m, again, _ := Load(d); m != n || again != s {
				t.Fatal("another one")
			}
			if e == api.OK {
				if at < 8 {
					t.Error("each of them is a use", at)
				}
				break
			}
		}
	}
}
