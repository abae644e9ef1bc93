package script_test

import (
	"math"
	"math/rand"
	"reflect"
	"strings"
	"testing"

	"afflux/api"
	"afflux/catalog"
	"afflux/sched"
	. "afflux/script"
	"afflux/value"
)

const plain = `table t(a int) key (a) limit 5; table u(a int, b text) key (a) limit 5;
stream in1(x int); sink out(x int, y text);
proc put(x int) { insert t(x); emit out(x, 'it''s'); }
proc say(x int) { reply x, 'a', true; } proc one() { reply 5; }`

func given(t *testing.T) api.Catalog {
	t.Helper()
	c, at, e := catalog.Parse(plain)
	if e != api.OK {
		t.Fatal(at, e)
	}
	return c
}

func made(t *testing.T) *World {
	t.Helper()
	w, e := New(1<<20, 10, given(t))
	if e != api.OK {
		t.Fatal(e)
	}
	return w
}

func call(name string, args ...int64) sched.Command {
	row := []api.Value{}
	for _, n := range args {
		row = append(row, value.Int(n))
	}
	return sched.Command{Kind: sched.Call, Name: name, Rows: [][]api.Value{row}}
}

func tells(t *testing.T, w *World, a Act, told string, e api.Errno) {
	t.Helper()
	if s, f := w.Do(a); s != told || f != e {
		t.Errorf("%v: %q, %d, not %q, %d", a, s, f, told, e)
	}
}

// P28.1
func TestNew(t *testing.T) {
	for what, c := range map[string]struct {
		room, most int
		c          api.Catalog
		want       api.Errno
	}{"no disk": {-1, 1, given(t), api.ErrArg}, "too great": {1<<24 + 1, 1, given(t), api.ErrArg}, "Deploy's error": {0, 1, given(t), api.ErrFull}, "no room": {100, 0, given(t), api.ErrArg}, "a catalog": {100, 1, api.Catalog{Procs: []api.Proc{{}}}, api.ErrArg}} {
		if w, e := New(c.room, c.most, c.c); w != nil || e != c.want {
			t.Error(what, e)
		}
	}
	var none *World
	s, e := none.Do(Act{Kind: 7})
	if s != "" || e != api.ErrArg || none.Engine() != nil || none.Disk() != nil {
		t.Error("nil")
	}
}

// P28.1
func TestDo(t *testing.T) {
	w := made(t)
	tells(t, w, Act{Kind: -1}, "", api.ErrArg)
	tells(t, w, Act{Kind: 9}, "", api.ErrArg)
	tells(t, w, Act{X: call("put", 4)}, "0", api.OK)
	tells(t, w, Act{X: call("put")}, "", api.ErrType)
	tells(t, w, Act{X: call("say", -3)}, "1", api.OK)
	tells(t, w, Act{Kind: 5, N: 1}, "", api.ErrBusy)
	tells(t, w, Act{Kind: 2, N: 1}, "", api.OK)
	tells(t, w, Act{Kind: 2, N: 2}, "", api.ErrNone)
	tells(t, w, Act{Kind: 4}, "", api.ErrState)
	tells(t, w, Act{Kind: 3}, "8", api.OK)
	tells(t, w, Act{X: call("put", 4)}, "2", api.OK)
	tells(t, w, Act{Kind: 3}, "3", api.OK)
	tells(t, w, Act{X: call("put", 5)}, "3", api.OK)
	tells(t, w, Act{Kind: 3}, "5", api.OK)
	tells(t, w, Act{Kind: 1}, "", api.OK)
	tells(t, w, Act{Kind: 5, N: 0}, "0 0", api.OK)
	tells(t, w, Act{Kind: 5, N: 1}, "0 0 -3, 'a', true", api.OK)
	tells(t, w, Act{Kind: 5, N: 2}, "9 0", api.OK)
	other := made(t)
	other.Do(Act{X: call("one")})
	other.Do(Act{Kind: 3})
	other.Do(Act{Kind: 1})
	tells(t, other, Act{Kind: 5}, "0 0 5", api.OK)
	tells(t, w, Act{Kind: 6, Name: "out"}, "0 4, 'it''s'; 3 5, 'it''s'", api.OK)
	tells(t, w, Act{Kind: 6, Name: "out", N: 1}, "3 5, 'it''s'", api.OK)
	tells(t, w, Act{Kind: 6, Name: "out", N: 2}, "", api.OK)
	tells(t, w, Act{Kind: 6, Name: "x"}, "", api.ErrNone)
	tells(t, w, Act{Kind: 4}, "", api.OK)
	tells(t, w, Act{Kind: 7, N: 0}, "", api.OK)
	tells(t, w, Act{X: call("put", 1)}, "", api.ErrOff)
	tells(t, w, Act{Kind: 3}, "0", api.OK)
	tells(t, w, Act{Kind: 8, Keep: []int{9}}, "", api.OK)
	if w.Engine().Next() != 4 || w.Disk().Used() == 0 {
		t.Error("opened anew")
	}
	w.Disk().Put("mark", "junk")
	tells(t, w, Act{Kind: 8}, "", api.ErrCorrupt)
	if w.Engine() != nil {
		t.Error("it couldn't be opened")
	}
	for kind := range 9 {
		e := api.ErrCorrupt
		if kind == 7 {
			e = api.OK
		}
		tells(t, w, Act{Kind: kind, N: 100}, "", e)
	}
	tells(t, w, Act{Kind: 9}, "", api.ErrArg)
	w.Disk().Delete("mark")
	tells(t, w, Act{Kind: 8}, "", api.ErrCorrupt)
}

// P28.1: at most 100 outputs
func TestPollMost(t *testing.T) {
	w := made(t)
	for range 130 {
		w.Engine().State().Emit(0, "out", []api.Value{value.Int(1), value.Text("")})
	}
	w.Do(Act{X: call("say", 1)})
	w.Do(Act{Kind: 1})
	if s, e := w.Do(Act{Kind: 6, Name: "out"}); strings.Count(s, ";") != 99 || e != api.OK {
		t.Error(strings.Count(s, ";"), e)
	}
}

func whole() Script {
	return Script{Room: 1 << 20, Most: 1000, Catalog: "x'\n", Acts: []Act{
		{X: call("put", 7)}, {X: sched.Command{Kind: 1, Id: 300, Name: "row", Rows: [][]api.Value{{}, {value.Text("a'b"), value.Bool(true)}, {value.Int(-1)}}}}, {X: sched.Command{Kind: 3, Name: "out"}},
		{Kind: 1}, {Kind: 2, N: 5}, {Kind: 3}, {Kind: 4}, {Kind: 5, N: -2}, {Kind: 6, Name: "out", N: 0}, {Kind: 7, N: math.MinInt}, {Kind: 8}, {Kind: 8, Keep: []int{1, 0, -7}},
	}}
}

const printed = `world 1048576 1000 78270a
submit 2 0 put row v37
submit 1 300 row row row v276127276227 v74727565 row v2d31
submit 3 0 out
commit
pick 5
run
snapshot
reply -2
poll out 0
arm -9223372036854775808
crash
crash 1 0 -7
`

// P28.2
func TestText(t *testing.T) {
	if s, e := Print(whole()); s != printed || e != api.OK {
		t.Errorf("%s%d", s, e)
	}
	s, n, e := Parse(printed)
	if again, _ := Print(s); again != printed || n != 0 || e != api.OK || len(s.Acts) != 12 || s.Acts[1].X.Rows[1][0] != value.Text("a'b") || s.Catalog != "x'\n" {
		t.Error(n, e)
	}
	if s, n, e := Parse("world 0 1 -\n"); !reflect.DeepEqual(s, Script{Most: 1}) || n != 0 || e != api.OK {
		t.Error(n, e)
	}
	for bad, line := range map[string]int{
		"": 1, "world 0 1 -": 1, "\n": 1, "world 0 1\n": 1, "world 0 1 - -\n": 1, "world  0 1 -\n": 1, "World 0 1 -\n": 1, "world -1 1 -\n": 1, "world 16777217 1 -\n": 1, "world 0 0 -\n": 1, "world 0 1001 -\n": 1, "world 00 1 -\n": 1, "world 0 1 \n": 1, "world 0 1 7\n": 1, "world 0 1 7A\n": 1, "world 0 1 zz\n": 1,
		"world 0 1 " + strings.Repeat("61", 8001) + "\n": 1, "world 0 1 -\r\n": 1, "commit\n": 1, "world 0 1 -\n\n": 2, "world 0 1 -\ncommit": 2, "world 0 1 -\ncommit \n": 2, "world 0 1 -\ncommit 1\n": 2, "world 0 1 -\n commit\n": 2, "world 0 1 -\nrun\nstop\n": 3, "world 0 1 -\nrun\nrun\nworld 0 1 -\n": 4,
		"world 0 1 -\npick\n": 2, "world 0 1 -\npick x\n": 2, "world 0 1 -\npick 01\n": 2, "world 0 1 -\npick 1 2\n": 2, "world 0 1 -\npick -0\n": 2, "world 0 1 -\npick 9223372036854775808\n": 2, "world 0 1 -\npoll out\n": 2, "world 0 1 -\npoll Out 0\n": 2, "world 0 1 -\npoll 0\n": 2, "world 0 1 -\npoll out 0 1\n": 2,
		"world 0 1 -\ncrash x\n": 2, "world 0 1 -\ncrash" + strings.Repeat(" 0", 51) + "\n": 2, "world 0 1 -\nsubmit\n": 2, "world 0 1 -\nsubmit 1 1\n": 2, "world 0 1 -\nsubmit 0 1 a\n": 2, "world 0 1 -\nsubmit 4 1 a\n": 2, "world 0 1 -\nsubmit 1 -1 a\n": 2, "world 0 1 -\nsubmit 1 1 A\n": 2, "world 0 1 -\nsubmit 1 1 a v37\n": 2, "world 0 1 -\nsubmit 1 1 a row 37\n": 2,
		"world 0 1 -\nsubmit 1 1 a row v\n": 2, "world 0 1 -\nsubmit 1 1 a row v3\n": 2, "world 0 1 -\nsubmit 1 1 a row v3030\n": 2, "world 0 1 -\nsubmit 1 1 a row v2d3\n": 2, "world 0 1 -\nsubmit 1 1 a row v-\n": 2, "world 0 1 -\nsubmit 1 1 a" + strings.Repeat(" row", 33) + "\n": 2, "world 0 1 -\nsubmit 1 1 a row" + strings.Repeat(" v37", 9) + "\n": 2,
		"world 0 1 -\n" + strings.Repeat("run\n", 301): 302,
	} {
		if s, n, e := Parse(bad); n != line || e != api.ErrForm || !reflect.DeepEqual(s, Script{}) {
			t.Errorf("%.60q: line %d, %d", bad, n, e)
		}
	}
	if s, n, e := Parse("world 0 1 -\n" + strings.Repeat("run\n", 300)); len(s.Acts) != 300 || n != 0 || e != api.OK {
		t.Error("300 acts", n, e)
	}
	if s, n, e := Parse(strings.Repeat("x", 1<<20+1)); n != 0 || e != api.ErrLong || !reflect.DeepEqual(s, Script{}) {
		t.Error("too long", n, e)
	}
	if _, n, e := Parse(strings.Repeat("x", 1<<20)); n != 1 || e != api.ErrForm {
		t.Error("not too long", n, e)
	}
}

// P28.2
func TestRight(t *testing.T) {
	if !Right(Script{Most: 1, Acts: []Act{{Kind: 8, Keep: make([]int, 50)}}}) {
		t.Error("50 of Keep")
	}
	if !Right(whole()) || !Right(Script{Room: 1 << 24, Most: 1000, Catalog: strings.Repeat("x", 8000), Acts: make([]Act, 0, 3)}) {
		t.Error("right")
	}
	act := func(a Act) func(*Script) { return func(s *Script) { s.Acts = append(s.Acts, a) } }
	x := call("put", 1)
	for what, change := range map[string]func(*Script){
		"room": func(s *Script) { s.Room = -1 }, "great room": func(s *Script) { s.Room = 1<<24 + 1 }, "most": func(s *Script) { s.Most = 0 }, "great most": func(s *Script) { s.Most = 1001 }, "catalog": func(s *Script) { s.Catalog = strings.Repeat("x", 8001) },
		"acts": func(s *Script) {
			s.Acts = make([]Act, 301)
			for i := range s.Acts {
				s.Acts[i].Kind = 3
			}
		}, "kind -1": act(Act{Kind: -1}), "kind 9": act(Act{Kind: 9}), "no command": act(Act{}), "a command": act(Act{X: sched.Command{Kind: 2, Name: "A"}}),
		"submit's n": act(Act{X: x, N: 1}), "submit's name": act(Act{X: x, Name: "a"}), "submit's keep": act(Act{X: x, Keep: []int{1}}), "commit's n": act(Act{Kind: 1, N: 1}), "pick's name": act(Act{Kind: 2, Name: "a"}), "run's command": act(Act{Kind: 3, X: x}), "snapshot's id": act(Act{Kind: 4, X: sched.Command{Id: 1}}),
		"reply's keep": act(Act{Kind: 5, Keep: []int{0}}), "poll's name": act(Act{Kind: 6}), "poll's Name": act(Act{Kind: 6, Name: "A"}), "arm's name": act(Act{Kind: 7, X: sched.Command{Name: "a"}}), "crash's n": act(Act{Kind: 8, N: 1}), "crash's keep": act(Act{Kind: 8, Keep: make([]int, 51)}), "arm's rows": act(Act{Kind: 7, X: sched.Command{Rows: [][]api.Value{{}}}}),
	} {
		s := whole()
		change(&s)
		text, e := Print(s)
		told, f := Play(s)
		if Right(s) || text != "" || e != api.ErrArg || told != "" || f != api.ErrArg {
			t.Error(what, e, f)
		}
	}
	long := Script{Most: 1}
	row := make([]api.Value, 8)
	for i := range row {
		row[i] = value.Text(strings.Repeat("'", 200))
	}
	for range 300 {
		long.Acts = append(long.Acts, Act{X: sched.Command{Kind: 1, Name: "a", Rows: [][]api.Value{row}}})
	}
	if s, e := Print(long); !Right(long) || s != "" || e != api.ErrLong {
		t.Error("too long", e)
	}
}

// P28.3
func TestPlay(t *testing.T) {
	s := Script{Room: 1 << 20, Most: 2, Catalog: plain, Acts: []Act{{X: call("put", 7)}, {X: call("put", 7)}, {X: call("put", 7)}, {Kind: 3}, {Kind: 1}, {Kind: 5, N: 1}, {Kind: 6, Name: "out"}, {X: call("say", 1)}}}
	want := "0 0 0\n1 0 1\n2 18\n3 0 8\n4 0\n5 0 9 0\n6 0 0 7, 'it''s'\n7 0 2\nnext 3 1\ntable t 1\ntable u 0\n"
	if told, e := Play(s); told != want || e != api.OK {
		t.Errorf("%s%d", told, e)
	}
	s.Acts = append(s.Acts, Act{Kind: 8})
	if told, e := Play(s); !strings.HasSuffix(told, "8 0\nnext 2 0\ntable t 1\ntable u 0\n") || e != api.OK {
		t.Error(told, e)
	}
	s.Acts = []Act{{Kind: 7}, {Kind: 1}, {Kind: 4}, {X: call("put", 1)}, {Kind: 8}}
	if told, _ := Play(s); told != "0 0\n1 0\n2 0\n3 7\n4 0\nnext 0 0\ntable t 0\ntable u 0\n" {
		t.Error(told)
	}
	for cat, e := range map[string]api.Errno{"junk": api.ErrParse, "proc p() { reply x; }": api.ErrType, "!": api.ErrParse} {
		if told, f := Play(Script{Room: 9999, Most: 1, Catalog: cat}); told != "" || f != e {
			t.Error(cat, f)
		}
	}
	if told, e := Play(Script{Room: 9, Most: 1}); told != "" || e != api.ErrFull {
		t.Error("New's error", e)
	}
	if told, e := Play(Script{Room: 999, Most: 1}); told != "next 0 0\n" || e != api.OK {
		t.Error("a catalog of nothing", told, e)
	}
}

// P28.3: with crashes
func TestPlayCrashes(t *testing.T) {
	s := Script{Room: 1 << 20, Most: 2, Catalog: plain, Acts: []Act{{X: call("put", 7)}, {Kind: 1}, {X: call("put", 8)}, {Kind: 7, N: 0}, {Kind: 1}, {Kind: 8, Keep: []int{20}}, {Kind: 7, N: 0}, {Kind: 8}}}
	want := "0 0 0\n1 0\n2 0 1\n3 0\n4 7\n5 0\n6 0\n7 0\nnext 1 0\ntable t 1\ntable u 0\n"
	if told, e := Play(s); told != want || e != api.OK {
		t.Error(told, e)
	}
}

// P28.4, P6 of the whole
func TestThereAndBack(t *testing.T) {
	r := rand.New(rand.NewSource(15))
	for range 150 {
		s := Script{Room: 3000 + r.Intn(20000), Most: 1 + r.Intn(4), Catalog: plain}
		for range r.Intn(40) {
			a := Act{Kind: r.Intn(9)}
			switch a.Kind {
			case 0:
				a.X = []sched.Command{call("put", r.Int63n(9)), call("say", r.Int63()), {Kind: 1, Name: "in1", Id: 1 + r.Intn(3), Rows: [][]api.Value{{value.Int(1)}}}, {Kind: 3, Name: "out", Id: r.Intn(3)}}[r.Intn(4)]
			case 2, 5, 7:
				a.N = r.Intn(12) - 1
			case 6:
				a.Name, a.N = "out", r.Intn(4)
			case 8:
				a.Keep = []int{r.Intn(50), r.Intn(50)}[:1+r.Intn(2)]
			}
			s.Acts = append(s.Acts, a)
		}
		text, e := Print(s)
		back, n, f := Parse(text)
		if e != api.OK || f != api.OK || n != 0 {
			t.Fatal(e, f, n)
		}
		if again, _ := Print(back); again != text {
			t.Fatal("printed otherwise")
		}
		told, e := Play(s)
		if again, f := Play(back); told != again || e != f || e != api.OK || strings.Count(told, "\n") < len(s.Acts) {
			t.Fatal("it tells something else")
		}
	}
}
