package script

import (
	"strings"

	"afflux/api"
	"afflux/calc"
	"afflux/disk"
	"afflux/sched"
	"afflux/schema"
	"afflux/value"
)

const (
	maxMost = 1000
	maxActs = 300
	maxKeep = 50
	maxText = 1 << 20
)

// Right tells whether a script is right.
func Right(s Script) bool {
	if !rightHead(s) || len(s.Acts) > maxActs {
		return false
	}
	for _, a := range s.Acts {
		if !rightAct(a) {
			return false
		}
	}
	return true
}

// rightHead tells whether all of a script but its acts is right.
func rightHead(s Script) bool {
	return disk.New(s.Room) != nil && s.Most >= 1 && s.Most <= maxMost && len(s.Catalog) <= api.MaxSource
}

// rightAct tells whether an act has just what its kind has.
func rightAct(a Act) bool {
	if a.Kind < submit || a.Kind > crash || len(a.Keep) > maxKeep || a.Kind != crash && len(a.Keep) > 0 {
		return false
	}
	if !hasNumber(a.Kind) && a.N != 0 || a.Kind == poll && !schema.Named(a.Name) || a.Kind != poll && a.Name != "" {
		return false
	}
	if a.Kind == submit {
		_, e := sched.Encode(a.X)
		return e == api.OK
	}
	return a.X.Kind == 0 && a.X.Id == 0 && a.X.Name == "" && len(a.X.Rows) == 0
}

func hasNumber(kind int) bool {
	return kind == pick || kind == reply || kind == poll || kind == arm
}

// word is the word that a kind of acts begins with.
func word(kind int) string {
	switch kind {
	case submit:
		return "submit"
	case commit:
		return "commit"
	case pick:
		return "pick"
	case run:
		return "run"
	case snapshot:
		return "snapshot"
	case reply:
		return "reply"
	case poll:
		return "poll"
	case arm:
		return "arm"
	}
	return "crash"
}

// kindOf is the kind of acts that begins with a word; -1: there is none.
func kindOf(s string) int {
	for kind := submit; kind <= crash; kind++ {
		if word(kind) == s {
			return kind
		}
	}
	return -1
}

const hexDigits = "0123456789abcdef"

// hex is a text in hex digits, two a byte; - of an empty one.
func hex(s string) string {
	if s == "" {
		return "-"
	}
	var b strings.Builder
	for i := range len(s) {
		b.WriteByte(hexDigits[s[i]>>4])
		b.WriteByte(hexDigits[s[i]&15])
	}
	return b.String()
}

// unhex is the text of hex digits; what isn't any comes out as some other text.
func unhex(s string) string {
	if s == "-" {
		return ""
	}
	var b strings.Builder
	for i := 1; i < len(s); i += 2 {
		high, low := strings.IndexByte(hexDigits, s[i-1]), strings.IndexByte(hexDigits, s[i])
		b.WriteByte(byte(max(high, 0)<<4 | max(low, 0)))
	}
	return b.String()
}

// Print is a script's text.
func Print(s Script) (string, api.Errno) {
	if !Right(s) {
		return "", api.ErrArg
	}
	var b strings.Builder
	b.WriteString(headLine(s))
	for _, a := range s.Acts {
		b.WriteString(actLine(a))
	}
	if b.Len() > maxText {
		return "", api.ErrLong
	}
	return b.String(), api.OK
}

func headLine(s Script) string {
	return line("world", digits(s.Room), digits(s.Most), hex(s.Catalog))
}

// actLine is the line of a right act.
func actLine(a Act) string {
	words := []string{word(a.Kind)}
	if a.Kind == submit {
		words = append(words, digits(a.X.Kind), digits(a.X.Id), a.X.Name)
	}
	for _, row := range a.X.Rows {
		words = append(words, "row")
		for _, v := range row {
			words = append(words, "v"+hex(value.Print(v)))
		}
	}
	words = append(words, a.Name)
	if hasNumber(a.Kind) {
		words = append(words, digits(a.N))
	}
	for _, n := range a.Keep {
		words = append(words, digits(n))
	}
	return line(words...)
}

// Parse is a text's script.
func Parse(t string) (Script, int, api.Errno) {
	if len(t) > maxText {
		return Script{}, 0, api.ErrLong
	}
	var s Script
	for n := 1; n == 1 || t != ""; n++ {
		one, rest, ended := strings.Cut(t, "\n")
		if !ended || !s.add(n, one+"\n") {
			return Script{}, n, api.ErrForm
		}
		t = rest
	}
	return s, 0, api.OK
}

// add adds what a line tells; false: no right script's text has it there.
func (s *Script) add(n int, l string) bool {
	words := strings.Split(strings.TrimSuffix(l, "\n"), " ")
	if n == 1 {
		return s.addHead(words) && rightHead(*s) && headLine(*s) == l
	}
	a, ok := act(words)
	s.Acts = append(s.Acts, a)
	// What is read of a line counts only if it is printed as that line.
	return ok && len(s.Acts) <= maxActs && rightAct(a) && actLine(a) == l
}

func (s *Script) addHead(words []string) bool {
	if len(words) != 4 {
		return false
	}
	s.Room, s.Most, s.Catalog = number(words[1]), number(words[2]), unhex(words[3])
	return true
}

// number is the number of a text; what is none comes out as 0.
func number(s string) int {
	n, _ := calc.Parse(s)
	return int(n)
}

// act is the act that words tell of, if they are just one's.
func act(words []string) (Act, bool) {
	a := Act{Kind: kindOf(words[0])}
	words = words[1:]
	switch a.Kind {
	case submit:
		return submitted(words)
	case poll:
		if len(words) != 2 {
			return Act{}, false
		}
		a.Name, a.N = words[0], number(words[1])
	case pick, reply, arm:
		if len(words) != 1 {
			return Act{}, false
		}
		a.N = number(words[0])
	case crash:
		for _, w := range words {
			a.Keep = append(a.Keep, number(w))
		}
	}
	return a, a.Kind >= 0
}

// submitted is the act of a command's words.
func submitted(words []string) (Act, bool) {
	if len(words) < 3 {
		return Act{}, false
	}
	x := sched.Command{Kind: number(words[0]), Id: number(words[1]), Name: words[2]}
	for _, w := range words[3:] {
		last := len(x.Rows) - 1
		switch {
		case w == "row":
			x.Rows = append(x.Rows, nil)
		case last < 0 || !strings.HasPrefix(w, "v"):
			return Act{}, false
		default:
			v, _ := value.Parse(unhex(w[1:]))
			x.Rows[last] = append(x.Rows[last], v)
		}
	}
	return Act{Kind: submit, X: x}, true
}
