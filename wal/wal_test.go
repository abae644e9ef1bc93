package wal_test

import (
	"fmt"
	"math/rand"
	"reflect"
	"strings"
	"testing"

	"afflux/api"
	"afflux/disk"
	"afflux/seal"
	. "afflux/wal"
)

func open(t *testing.T, d *disk.Disk, first int) (*Log, []api.Rec) {
	t.Helper()
	l, recs, e := Open(d, "log", first)
	if e != api.OK {
		t.Fatalf("Open: %d", e)
	}
	return l, recs
}

func add(t *testing.T, l *Log, data string) int {
	t.Helper()
	n, e := l.Append(data)
	if e != api.OK {
		t.Fatalf("Append: %d", e)
	}
	return n
}

func want(t *testing.T, what string, have, e api.Errno) {
	t.Helper()
	if have != e {
		t.Errorf("%s: %d, not %d", what, have, e)
	}
}

func frame(seq int, data string) string {
	f, _ := seal.Frame(fmt.Sprintf("%s%s", string([]byte{0, 0, 0, 0, byte(seq >> 24), byte(seq >> 16), byte(seq >> 8), byte(seq)}), data))
	return f
}

// P7.1
func TestOpenWrong(t *testing.T) {
	d := disk.New(100)
	for _, name := range []string{"", "toolong", "A", "a1", "a.", "\xe4"} {
		_, _, e := Open(d, name, 0)
		want(t, name, e, api.ErrArg)
	}
	for _, first := range []int{-1, 100000000} {
		_, _, e := Open(d, "log", first)
		want(t, "first", e, api.ErrArg)
	}
	l, recs, e := Open(nil, "log", 0)
	if l != nil || recs != nil || e != api.ErrArg {
		t.Error("no disk")
	}
	d.Arm(0)
	d.Sync()
	_, _, e = Open(d, "", 0)
	want(t, "ahead of the power", e, api.ErrArg)
	_, _, e = Open(d, "log", 0)
	want(t, "off", e, api.ErrOff)
}

// P7.1
func TestOpenWhatLies(t *testing.T) {
	a, b, c := frame(5, "a"), frame(6, ""), frame(7, "cc")
	type files map[string]string
	for what, x := range map[string]struct {
		files files
		e     api.Errno
		recs  int
		next  int
		last  string // what the last segment has behind it all
	}{
		"nothing":                 {files{"log.1": "x", "log.0000000x": "x", "log.000000001": "", "lo.00000001": "z", "logs.00000001": "z"}, 0, 0, 3, ""},
		"an empty segment":        {files{"log.00000009": ""}, 0, 0, 9, ""},
		"one segment":             {files{"log.00000005": a + b + c}, 0, 3, 8, a + b + c},
		"a tail":                  {files{"log.00000005": a + b + c[:9]}, 0, 2, 7, a + b},
		"a spoilt one":            {files{"log.00000005": a + b[:5] + "\xff" + b[6:] + c}, 0, 1, 6, a},
		"another number":          {files{"log.00000005": a + c}, 0, 1, 6, a},
		"first isn't the name's":  {files{"log.00000004": a}, 0, 0, 4, ""},
		"a frame without number":  {files{"log.00000005": a + "\x00\x00\x00\x03abc" + sum("\x00\x00\x00\x03abc")}, 0, 1, 6, a},
		"two segments":            {files{"log.00000005": a + b, "log.00000007": c + "zz"}, 0, 3, 8, c},
		"the last one is empty":   {files{"log.00000005": a + b, "log.00000007": ""}, 0, 2, 7, ""},
		"behind another one":      {files{"log.00000005": a + b + "z", "log.00000007": c}, api.ErrCorrupt, 0, 0, ""},
		"a gap":                   {files{"log.00000005": a, "log.00000007": c}, api.ErrCorrupt, 0, 0, ""},
		"one that is there twice": {files{"log.00000005": a + b, "log.00000006": b}, api.ErrCorrupt, 0, 0, ""},
		"another one is empty":    {files{"log.00000005": "", "log.00000007": c}, api.ErrCorrupt, 0, 0, ""},
	} {
		d := disk.New(1000)
		last := ""
		for name, data := range x.files {
			d.Append(name, data)
			if strings.HasPrefix(name, "log.") && len(name) == 12 && name[11] != 'x' {
				last = max(last, name)
			}
		}
		l, recs, e := Open(d, "log", 3)
		if want(t, what, e, x.e); e != api.OK {
			if l != nil || recs != nil {
				t.Error(what, "beside an error")
			}
			continue
		}
		if len(recs) != x.recs || l.Next() != x.next || l.Safe() != x.next || l.Err() != api.OK {
			t.Error(what, recs, l.Next(), l.Safe())
		}
		if data, _ := d.Read(last); data != x.last || d.Kept(last) != len(data) {
			t.Errorf("%s: %q, %d kept", what, data, d.Kept(last))
		}
		for i, r := range recs {
			if r.Seq != x.next-len(recs)+i {
				t.Error(what, recs)
			}
		}
	}
}

func sum(s string) string {
	n := seal.Of(s)
	b := make([]byte, 8)
	for i := range b {
		b[i] = byte(n >> (8 * i))
	}
	return string(b)
}

// P7.1, P7.2
func TestGroups(t *testing.T) {
	d := disk.New(1 << 20)
	l, recs := open(t, d, 0)
	if recs != nil || l.Next() != 0 || l.Safe() != 0 || d.Uses() != 0 {
		t.Error("a new log")
	}
	if add(t, l, "a") != 0 || add(t, l, "b") != 1 || l.Next() != 2 || l.Safe() != 0 {
		t.Error("numbers")
	}
	want(t, "Commit", l.Commit(), api.OK)
	uses := d.Uses()
	want(t, "Commit without a group", l.Commit(), api.OK)
	if l.Safe() != 2 || d.Uses() != uses {
		t.Error("committed")
	}
	if data, _ := d.Read("log.00000000"); data != frame(0, "a")+frame(1, "b") {
		t.Errorf("%q", data)
	}
	add(t, l, "c")
	d.Crash()
	l, recs = open(t, d, 7)
	if !reflect.DeepEqual(recs, []api.Rec{{Seq: 0, Data: "a"}, {Seq: 1, Data: "b"}}) || add(t, l, "d") != 2 {
		t.Error(recs)
	}
	for _, name := range []string{"a", "z", "abcxyz"} {
		if l, recs, e := Open(disk.New(100), name, 0); l == nil || recs != nil || e != api.OK {
			t.Error(name, e)
		}
	}
	if first, _ := open(t, disk.New(100), 99999999); first.Next() != 99999999 {
		t.Error("first")
	}
}

// P7.2
func TestAppendErrors(t *testing.T) {
	d := disk.New(1 << 20)
	l, _ := open(t, d, 99999998)
	n, e := l.Append(strings.Repeat("x", 65001))
	if want(t, "too long", e, api.ErrLong); n != 0 {
		t.Error(n)
	}
	if add(t, l, strings.Repeat("x", 65000)) != 99999998 {
		t.Error("the longest")
	}
	_, e = l.Append("")
	want(t, "the last number", e, api.ErrLong)
	small := disk.New(41)
	l, _ = open(t, small, 0)
	n, e = l.Append(strings.Repeat("x", 22))
	if want(t, "no room", e, api.ErrFull); n != 0 {
		t.Error(n)
	}
	add(t, l, "x")
	_, e = l.Append("x")
	want(t, "no room", e, api.ErrFull)
	add(t, l, "")
	want(t, "an error that doesn't stay", l.Commit(), api.OK)
	many := disk.New(1 << 20)
	for i := range api.MaxFiles {
		many.Append(fmt.Sprint("f", i))
	}
	l, _ = open(t, many, 0)
	_, e = l.Append("x")
	want(t, "no file", e, api.ErrFull)
	many.Delete("f0")
	add(t, l, "x")
	add(t, l, "y")
	l.Rotate()
	_, e = l.Append("z")
	want(t, "no file", e, api.ErrFull)
	if l.Next() != 2 || l.Safe() != 2 {
		t.Error("nothing has changed")
	}
}

// P7.2
func TestErrorThatStays(t *testing.T) {
	for _, failing := range []func(*Log) api.Errno{
		func(l *Log) api.Errno {
			n, e := l.Append("b")
			if n != 0 {
				t.Error(n)
			}
			return e
		},
		(*Log).Commit, (*Log).Rotate, func(l *Log) api.Errno { return l.Forget(0) },
	} {
		d := disk.New(1000)
		l, _ := open(t, d, 0)
		add(t, l, "a")
		d.Arm(0)
		want(t, "off", failing(l), api.ErrOff)
		d.Crash(99)
		n, e := l.Append(strings.Repeat("x", 70000))
		if n != 0 {
			t.Error(n)
		}
		for _, e := range []api.Errno{e, l.Commit(), l.Rotate(), l.Forget(0), l.Err()} {
			want(t, "it stays", e, api.ErrOff)
		}
		if l.Next() != 1 || l.Safe() != 0 {
			t.Error(l.Next(), l.Safe())
		}
	}
	var none *Log
	_, e := none.Append("x")
	for _, e := range []api.Errno{e, none.Commit(), none.Rotate(), none.Forget(1), none.Err()} {
		want(t, "nil", e, api.ErrArg)
	}
	if none.Next() != 0 || none.Safe() != 0 {
		t.Error("nil")
	}
}

// P7.2
func TestSegments(t *testing.T) {
	d := disk.New(1 << 20)
	l, _ := open(t, d, 0)
	want(t, "Rotate of nothing", l.Rotate(), api.OK)
	half := strings.Repeat("h", SegmentSize/2-20)
	add(t, l, half)
	add(t, l, half[1:])
	if add(t, l, "c"); len(d.Names()) != 1 || l.Safe() != 0 {
		t.Error("one byte was missing", d.Names())
	}
	if add(t, l, "d"); len(d.Names()) != 2 || l.Safe() != 3 || d.Kept("log.00000000") != SegmentSize-1+21 {
		t.Error("a new segment, the group being committed ahead", d.Names(), l.Safe())
	}
	want(t, "Rotate", l.Rotate(), api.OK)
	want(t, "Rotate", l.Rotate(), api.OK)
	if l.Safe() != 4 || add(t, l, "e") != 4 || add(t, l, "f") != 5 || !reflect.DeepEqual(d.Names(), []string{"log.00000000", "log.00000003", "log.00000004"}) {
		t.Error(d.Names())
	}
	want(t, "Forget", l.Forget(2), api.OK)
	if len(d.Names()) != 3 || l.Safe() != 6 {
		t.Error("one of them isn't below", d.Names(), l.Safe())
	}
	want(t, "Forget", l.Forget(3), api.OK)
	if d.Names()[0] != "log.00000003" {
		t.Error(d.Names())
	}
	want(t, "Forget", l.Forget(99), api.OK)
	if !reflect.DeepEqual(d.Names(), []string{"log.00000004"}) {
		t.Error("the last one stays", d.Names())
	}
	l, recs := open(t, d, 0)
	if len(recs) != 2 || recs[0].Seq != 4 || l.Next() != 6 {
		t.Error(recs)
	}
}

// P7.2: a segment that has just SegmentSize bytes ends
func TestSegmentEnds(t *testing.T) {
	for more, files := range map[int]int{-1: 1, 0: 2} {
		d := disk.New(1 << 20)
		l, _ := open(t, d, 0)
		add(t, l, strings.Repeat("x", SegmentSize-20+more))
		if add(t, l, ""); len(d.Names()) != files {
			t.Error(more, d.Names())
		}
	}
}

// P7.2: a segment without records isn't rotated; errors of a Forget and of a Commit ahead stay
func TestRotateEmptyAndErrors(t *testing.T) {
	d := disk.New(1 << 20)
	l, _ := open(t, d, 5)
	add(t, l, "a")
	d.Crash()
	l, recs := open(t, d, 0)
	want(t, "Rotate", l.Rotate(), api.OK)
	if add(t, l, "b") != 5 || recs != nil || len(d.Names()) != 1 {
		t.Error("the last one has none", d.Names())
	}
	l.Rotate()
	add(t, l, "c")
	l.Commit()
	d.Arm(0)
	want(t, "Forget", l.Forget(6), api.ErrOff)
	d.Crash()
	if want(t, "it stays", l.Err(), api.ErrOff); len(d.Names()) != 2 {
		t.Error(d.Names())
	}
	l, _ = open(t, d, 0)
	add(t, l, strings.Repeat("x", SegmentSize))
	d.Arm(0)
	n, e := l.Append("d")
	if want(t, "the group is committed ahead", e, api.ErrOff); n != 0 || l.Next() != 8 || l.Safe() != 7 {
		t.Error(n, l.Next(), l.Safe())
	}
}

// P7.1: the power goes off within Open
func TestOpenOff(t *testing.T) {
	for at, e := range []api.Errno{api.ErrOff, api.ErrOff, api.OK} {
		d := disk.New(1000)
		d.Append("log.00000000", frame(0, "a")+"tail")
		d.Arm(at)
		l, recs, f := Open(d, "log", 0)
		if want(t, "Open", f, e); (l == nil) != (e != api.OK) || (recs == nil) != (e != api.OK) {
			t.Error(at)
		}
	}
}

// P7.3: crashes at any use
func TestCrashes(t *testing.T) {
	r := rand.New(rand.NewSource(4))
	for range 300 {
		d := disk.New(1 << 22)
		first, next, safe, low := 0, 0, 0, 0
		var all []string
		for range 6 {
			l, recs, e := Open(d, "log", first)
			if e != api.OK {
				d.Crash(r.Intn(60), r.Intn(60))
				continue
			}
			if len(recs) > 0 && recs[0].Seq > low || l.Next() < safe || l.Next() > next {
				t.Fatalf("%d to %d, of %d safe, %d in all, %d forgotten", len(recs), l.Next(), safe, next, low)
			}
			for _, rec := range recs {
				if rec.Data != all[rec.Seq] {
					t.Fatal("another record")
				}
			}
			all, next, safe = all[:l.Next()], l.Next(), l.Next()
			d.Arm(r.Intn(25))
			for l.Err() == api.OK {
				switch r.Intn(8) {
				case 0:
					l.Commit()
				case 1:
					l.Rotate()
				case 2:
					below := r.Intn(next + 1)
					low = max(low, below)
					l.Forget(below)
				default:
					data := strings.Repeat("x", r.Intn(5000)) + fmt.Sprint(r.Int())
					if _, e := l.Append(data); e == api.OK || e == api.ErrOff {
						all = append(all[:next:next], data)
					}
				}
				next, safe = max(next, l.Next()), max(safe, l.Safe())
			}
			keep := make([]int, 9)
			for i := range keep {
				keep[i] = r.Intn(12000)
			}
			d.Crash(keep...)
		}
	}
}
