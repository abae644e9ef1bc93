package walk_test

import (
	"testing"

	"afflux/api"
	"afflux/lex"
	. "afflux/walk"
)

func on(t *testing.T, s string) *Walker {
	t.Helper()
	l, _, e := lex.Words(s)
	if e != api.OK {
		t.Fatal(e)
	}
	return On(lex.On(l, len(s)))
}

// Once it can't go on, a walker takes none any more.
func TestStuck(t *testing.T) {
	w := on(t, "a int , b bool x 5 if")
	var l []api.Column
	w.List(func() { l = append(l, w.Column()) })
	if len(l) != 2 || l[1] != (api.Column{Name: "b", Kind: api.KBool}) || !w.Take("x") || w.Number(5) != 5 || w.Stuck() {
		t.Error(l)
	}
	if w.Name() != "" || !w.Stuck() || w.Left() != 1 || w.Take("if") || w.Number(0) != 0 || w.Name() != "" || w.Left() != 1 {
		t.Error("a reserved word is no name")
	}
	w = on(t, "( 4 x")
	if w.Need("(", ")", "4"); !w.Stuck() || w.Left() != 2 {
		t.Error("Need", w.Left())
	}
	w = on(t, "4")
	if w.Number(5) != 0 || !w.Stuck() || w.Left() != 1 {
		t.Error("a number below the least one")
	}
	w = on(t, "a x")
	if w.Column(); !w.Stuck() || w.Left() != 1 {
		t.Error("no kind")
	}
}
