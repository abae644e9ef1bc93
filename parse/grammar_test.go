package parse_test

import (
	"math/rand"
	"strings"
	"testing"

	"afflux/api"
	"afflux/lex"
	. "afflux/parse"
	"afflux/syntax"
)

// The chapter's grammar: N is a name, I a number, L a number from 1 on, T a text; what begins with a great letter and is longer is a rule.
const grammar = `
Proc: proc N ( Params ) Head Fuel Block
Params: | ParamList
ParamList: Param | ParamList , Param
Param: N Kind
Kind: int | text | bool
Head: | on N | from N
Fuel: | fuel I
Block: { Stmts }
Stmts: | Stmts Stmt
Stmt: let N = Expr ; | set N = Expr ; | insert N ( Exprs ) ; | update N in N Where set Sets ; | delete N in N Where ;
Stmt: for N in N Where Limit Block | if Expr Block | if Expr Block else Block | emit N ( Exprs ) ; | abort Expr ; | reply Exprs ;
Where: | where Expr
Limit: | limit L
Sets: N = Expr | Sets , N = Expr
Exprs: Expr | Exprs , Expr
Expr: Both | Expr or Both
Both: Oppo | Both and Oppo
Oppo: Comp | not Oppo
Comp: Sums | Sums = Sums | Sums != Sums | Sums < Sums | Sums <= Sums | Sums >= Sums | Sums > Sums
Sums: Prod | Sums + Prod | Sums - Prod
Prod: Sign | Prod * Sign | Prod / Sign | Prod % Sign
Sign: Atom | - Sign
Atom: I | T | true | false | N | N . N | count ( N in N Where ) | Many ( N in N Where : Expr ) | ( Expr )
Many: sum | min | max
`

func rules() map[string][][]string {
	all := map[string][][]string{}
	for _, line := range strings.Split(strings.TrimSpace(grammar), "\n") {
		name, rest, _ := strings.Cut(line, ":")
		for _, one := range strings.Split(" "+rest+" ", " | ") {
			all[name] = append(all[name], strings.Fields(one))
		}
	}
	// The sign : is a word of a rule, too.
	return all
}

func fits(part string, w lex.Word) bool {
	switch part {
	case "N":
		return w.Kind == lex.Name && !syntax.Reserved(w.Text)
	case "I":
		return w.Kind == lex.Number
	case "L":
		return w.Kind == lex.Number && w.N > 0
	case "T":
		return w.Kind == lex.Text
	}
	return w.Text == part && (w.Kind == lex.Sign || w.Kind == lex.Name)
}

// item is a rule, how far it is, and where it began (after Earley).
type item struct {
	name     string
	one, dot int
	from     int
}

// firstWrong is the place, in words, of the first one with which no text of a rule goes on; as many as there are, if it ends too early; -1: it is one.
func firstWrong(all map[string][][]string, begin string, l []lex.Word) int {
	sets := make([][]item, len(l)+1)
	has := make([]map[item]bool, len(l)+1)
	for i := range has {
		has[i] = map[item]bool{}
	}
	add := func(i int, x item) {
		if !has[i][x] {
			has[i][x] = true
			sets[i] = append(sets[i], x)
		}
	}
	for one := range all[begin] {
		add(0, item{begin, one, 0, 0})
	}
	for i := range sets {
		if len(sets[i]) == 0 {
			return i - 1
		}
		for again := true; again; { // what is empty may be done ahead of who asks for it
			count := len(sets[i])
			for k := 0; k < len(sets[i]); k++ {
				x := sets[i][k]
				rule := all[x.name][x.one]
				switch {
				case x.dot == len(rule):
					for _, y := range sets[x.from] {
						if r := all[y.name][y.one]; y.dot < len(r) && r[y.dot] == x.name {
							add(i, item{y.name, y.one, y.dot + 1, y.from})
						}
					}
				case all[rule[x.dot]] != nil:
					for one := range all[rule[x.dot]] {
						add(i, item{rule[x.dot], one, 0, i})
					}
				case i < len(l) && fits(rule[x.dot], l[i]):
					add(i+1, item{x.name, x.one, x.dot + 1, x.from})
				}
			}
			again = len(sets[i]) > count
		}
	}
	for x := range has[len(l)] {
		if x.name == begin && x.from == 0 && x.dot == len(all[begin][x.one]) {
			return -1
		}
	}
	return len(l)
}

// P13.1, P13.2, held against the grammar
func TestAgainstGrammar(t *testing.T) {
	all := rules()
	r := rand.New(rand.NewSource(16))
	exprs := []string{"a or not b.c = -(1 + x) * 'q' and true", "count(r in t where r.a > 1) + sum(r in t: r.b % 2) - max(q in u where not q.c: -q.a)", "((a)) / - - b != false or min(r in t: 1) >= 2"}
	procs := []string{whole, "proc p() from s { for r in batch { emit mid(r.x, 1); } }", "proc q(a int) fuel 5 { if a > 1 { reply a; } else { abort a; } }", "proc p() { }"}
	vocabulary := strings.Fields("proc p ( ) { } [ ] on from fuel int text bool let set insert update delete for in where limit if else emit abort reply count sum min max and or not true false a t 0 1 77 'x' , ; : . + - * / % < <= = != >= > table key")
	tell := func(begin string, e api.Errno, at int, l []lex.Word, end int) {
		wrong := firstWrong(all, begin, l)
		place := end
		if wrong >= 0 && wrong < len(l) {
			place = l[wrong].At
		}
		switch {
		case wrong < 0 && e != api.OK && e != api.ErrDeep, wrong >= 0 && (e != api.ErrParse || at != place):
			t.Fatalf("%v: %d at %d, not at %d", l, e, at, place)
		}
	}
	for range 6000 {
		begin, text := "Expr", exprs[r.Intn(len(exprs))]
		if r.Intn(2) == 0 {
			begin, text = "Proc", procs[r.Intn(len(procs))]
		}
		l, _, _ := lex.Words(text)
		var words []string
		for _, w := range l {
			if w.Kind == lex.Text {
				w.Text = "'" + w.Text + "'"
			}
			words = append(words, w.Text)
		}
		for range r.Intn(4) {
			i, j := r.Intn(len(words)), r.Intn(len(words))
			switch r.Intn(4) {
			case 0:
				words[i] = vocabulary[r.Intn(len(vocabulary))]
			case 1:
				words = append(words[:i], words[i+1:]...)
			case 2:
				words = append(words[:i], append([]string{vocabulary[r.Intn(len(vocabulary))]}, words[i:]...)...)
			default:
				words[i], words[j] = words[j], words[i]
			}
			if len(words) == 0 {
				break
			}
		}
		if r.Intn(4) == 0 {
			words = words[:r.Intn(len(words)+1)]
		}
		text = strings.Join(words, " ")
		l, _, e := lex.Words(text)
		if e != api.OK {
			continue
		}
		if begin == "Expr" {
			_, at, e := Expr(text)
			tell(begin, e, at, l, len(text))
			continue
		}
		_, at, e := Proc(text)
		tell(begin, e, at, l, len(text))
		c := lex.On(l, len(text))
		if _, ok := Body(c); !ok && e == api.ErrParse && c.Word().At != at {
			t.Fatalf("%s: Body stands at %d, not at %d", text, c.Word().At, at)
		}
	}
}
