package engine_test

import (
	"testing"

	"afflux/api"
	"afflux/catalog"
	"afflux/disk"
	. "afflux/engine"
	"afflux/sched"
	"afflux/value"
)

// The examples of the whole; P1 to P5.
const examples = `table t(a int, n int) key (a) limit 9 parts 2 by a;
stream in1(x int); stream mid(x int); sink out(x int);
proc add() from in1 { emit mid(sum(r in batch: r.x)); emit out(1); }
proc keep() from mid { for r in batch { insert t(r.x, 100 / (r.x - 3)); } }
proc put(a int) on a { insert t(a, 0); emit out(a); }
proc see(a int) on a { let n = count(r in t); reply n; }`

func examined(t *testing.T, room int) (*disk.Disk, *Engine) {
	t.Helper()
	c, at, e := catalog.Parse(examples)
	if e != api.OK {
		t.Fatal(at, e)
	}
	d := disk.New(room)
	g, e := Deploy(d, c, 10)
	if e != api.OK {
		t.Fatal(e)
	}
	return d, g
}

func done(t *testing.T, g *Engine, x sched.Command) sched.Result {
	t.Helper()
	n := submit(t, g, x)
	g.Run()
	g.Commit()
	r, e := g.Reply(n)
	if e != api.OK {
		t.Fatal(e)
	}
	return r
}

// Examples 1 to 3: a batch and its flow; the same one again; one that aborts
func TestBatches(t *testing.T) {
	_, g := examined(t, 1<<20)
	if r := done(t, g, batch(1, 4, 5)); r.Err != api.OK || value.Line(g.State().Table("t").Rows()[0]...) != "9, 16" {
		t.Error(r)
	}
	before := g.State().Bytes()
	for id, e := range map[int]api.Errno{1: api.ErrTwice, 3: api.ErrGap, 0: api.ErrArg} {
		if n, f := g.Submit(batch(id, 1)); n != 0 || f != e || g.State().Bytes() != before {
			t.Error("what is refused changes nothing", id, f)
		}
	}
	if r := done(t, g, batch(2, 1, 2)); r.Err != api.ErrZero || g.State().Border("in1").Mark() != 2 {
		t.Error(r)
	}
	if l, _ := g.Poll("out", 0, 9); len(l) != 1 || g.State().Table("t").Len() != 1 {
		t.Error("the whole batch leaves nothing", l)
	}
	g.State().Border("in1").Set(1)
	if g.State().Bytes() != before {
		t.Error("but its mark")
	}
}

// Examples 4 and 5: calls of partitions
func TestPartitions(t *testing.T) {
	_, g := examined(t, 1<<20)
	first, second, third := submit(t, g, call("put", 0)), submit(t, g, call("put", 1)), submit(t, g, call("see", 1))
	want(t, "the first one", g.Pick(first), api.OK)
	want(t, "the second one waits for its end", g.Pick(second), api.ErrNone)
	if l := g.Enabled(); len(l) != 1 {
		t.Error("who reads partition 1 waits behind who writes it", l)
	}
	fourth := submit(t, g, call("see", 3))
	g.Run()
	if g.Waiting() != 0 || g.Commit() != api.OK {
		t.Fatal("all end")
	}
	for _, n := range []int{third, fourth} {
		if r, _ := g.Reply(n); value.Line(r.Reply...) != "1" {
			t.Error("as if one came behind the other", r)
		}
	}
	first, second = submit(t, g, call("put", 2)), submit(t, g, call("see", 1))
	want(t, "steps of both, in turns", g.Pick(first, second, first, second, first, second, first, second, second, first), api.OK)
	if g.Waiting() != 0 {
		t.Error(g.Enabled())
	}
}

// Examples 8 and 10: a crash within a snapshot; a byte of it that is turned
func TestSnapshots(t *testing.T) {
	for at := 0; ; at++ {
		d, g := examined(t, 1<<20)
		done(t, g, batch(1, 4, 5))
		before := g.State().Bytes()
		d.Arm(at)
		e := g.Snapshot()
		d.Crash(9, 9, 9, 9)
		g = opened(t, d)
		if g.State().Bytes() != before || g.Next() != 1 {
			t.Fatal("the old one counts, or the new one", at)
		}
		if e == api.OK {
			name := d.Names("s.")[0]
			s, _ := d.Read(name)
			d.Put(name, s[:len(s)/2]+string(s[len(s)/2]^4)+s[len(s)/2+1:])
			if g, e := Open(d, 9); g != nil || e != api.ErrCorrupt {
				t.Error(e)
			}
			return
		}
	}
}
