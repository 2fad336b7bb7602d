package parse_test

import (
	"math/rand"
	"strings"
	"testing"

	"palings/api"
	"palings/lex"
	"palings/parse"
)

// rules is the document's rules, with what it says of statements that begin with an expression: any may stand there, but only behind a call, a name or a word of an array there is a token that may follow (never is none). A part in quotes is that token; Name and Number are theirs.
const rules = `
program  =
program  = program global
program  = program function
global   = hold Name size ";"
hold     = "var"
hold     = "public"
hold     = "secret"
size     =
size     = "[" Number "]"
function = "func" Name "(" params ")" block
params   =
params   = names
names    = Name
names    = names "," Name
block    = "{" stmts "}"
stmts    =
stmts    = stmts stmt
stmt     = "let" Name "=" expr ";"
stmt     = choice
stmt     = "while" expr block
stmt     = "return" expr ";"
stmt     = call ";"
stmt     = var "=" expr ";"
stmt     = index "=" expr ";"
stmt     = expr "never"
call     = Name "(" args ")"
call     = "(" call ")"
var      = Name
var      = "(" var ")"
index    = Name "[" expr "]"
index    = "(" index ")"
choice   = "if" expr block
choice   = "if" expr block "else" block
choice   = "if" expr block "else" choice
expr     = and
expr     = expr "||" and
and      = rel
and      = and "&&" rel
rel      = sum
rel      = sum compare sum
compare  = "=="
compare  = "!="
compare  = "<"
compare  = "<="
compare  = ">"
compare  = ">="
sum      = term
sum      = sum plus term
plus     = "+"
plus     = "-"
plus     = "|"
plus     = "^"
term     = unary
term     = term times unary
times    = "*"
times    = "/"
times    = "%"
times    = "&"
times    = "<<"
times    = ">>"
unary    = "!" unary
unary    = "-" unary
unary    = Number
unary    = "true"
unary    = "false"
unary    = "(" expr ")"
unary    = Name
unary    = Name "[" expr "]"
unary    = Name "(" args ")"
args     =
args     = list
list     = expr
list     = list "," expr`

type rule struct {
	left  string
	right []string
}

// way is a rule that is under way: how much of it there is, and at which token it began.
type way struct{ rule, done, from int }

// ways is the ways that go to one place in the tokens, each once.
type ways struct {
	list []way
	has  map[way]bool
}

func (w *ways) add(x way) {
	if !w.has[x] {
		w.has[x] = true
		w.list = append(w.list, x)
	}
}

// walk goes all ways at once that the rules may go, token by token.
type walk struct {
	rules  []rule
	starts map[string][]int // the rules of a part
	empty  map[string]bool  // the parts that may be nothing
	sets   []*ways
}

func newWalk() *walk {
	k := &walk{starts: map[string][]int{}, empty: map[string]bool{}}
	for i, line := range strings.Split(strings.TrimSpace(rules), "\n") {
		f := strings.Fields(line)
		k.rules = append(k.rules, rule{f[0], f[2:]})
		k.starts[f[0]] = append(k.starts[f[0]], i)
		if len(f) == 2 {
			k.empty[f[0]] = true
		}
	}
	return k
}

// firstWrong is the first token that isn't on any way.
func (k *walk) firstWrong(tokens []lex.Token) int {
	k.sets = []*ways{{has: map[way]bool{}}}
	k.begin("program", 0)
	for at, tok := range tokens {
		k.complete(at)
		next, ended := &ways{has: map[way]bool{}}, false
		for _, w := range k.sets[at].list {
			r := k.rules[w.rule]
			if w.done < len(r.right) && fits(r.right[w.done], tok) {
				next.add(way{w.rule, w.done + 1, w.from})
			}
			ended = ended || r.left == "program" && w.done == len(r.right) && w.from == 0
		}
		if tok.Kind == lex.End && ended {
			return -1
		}
		if len(next.list) == 0 {
			return at
		}
		k.sets = append(k.sets, next)
	}
	return len(tokens)
}

func (k *walk) begin(part string, at int) {
	for _, i := range k.starts[part] {
		k.sets[at].add(way{i, 0, at})
	}
}

// complete adds the ways that begin there, and those that go on behind parts that end there.
func (k *walk) complete(at int) {
	set := k.sets[at]
	for i := 0; i < len(set.list); i++ {
		w := set.list[i]
		r := k.rules[w.rule]
		if w.done == len(r.right) {
			k.goOn(w, r.left, at)
			continue
		}
		part := r.right[w.done]
		k.begin(part, at)
		if k.empty[part] {
			set.add(way{w.rule, w.done + 1, w.from})
		}
	}
}

func (k *walk) goOn(w way, part string, at int) {
	for i := 0; i < len(k.sets[w.from].list); i++ {
		v := k.sets[w.from].list[i]
		if r := k.rules[v.rule]; v.done < len(r.right) && r.right[v.done] == part {
			k.sets[at].add(way{v.rule, v.done + 1, v.from})
		}
	}
}

func fits(part string, t lex.Token) bool {
	switch part {
	case "Name":
		return t.Kind == lex.Name
	case "Number":
		return t.Kind == lex.Number
	}
	return part == `"`+t.Text+`"`
}

func wantByRules(t *testing.T, k *walk, s string) bool {
	t.Helper()
	tokens, f := lex.All(s)
	if f.E != api.OK {
		t.Fatal(s, f)
	}
	i := k.firstWrong(tokens)
	if i < 0 {
		program(t, s)
		return true
	}
	wantFault(t, s, api.ErrToken, tokens[i].At)
	return false
}

// TestRules spoils programs, and holds what is told of them against the rules.
func TestRules(t *testing.T) {
	k := newWalk()
	tokens := strings.Fields("a f 1 7 else false func if let public return secret true var while && || == != <= >= << >> + - * / % & | ^ < > = ! ( ) { } [ ] , ;")
	right, wrong := 0, 0
	for seed := range int64(3000) {
		r := rand.New(rand.NewSource(seed))
		m, _ := made(seed)
		if len(m.text) > 60 {
			continue
		}
		text := m.text
		for range r.Intn(3) {
			i, j := r.Intn(len(text)+1), r.Intn(len(text)+1)
			switch tok := tokens[r.Intn(len(tokens))]; {
			case i == len(text) || r.Intn(4) == 0:
				text = append(append(append([]string{}, text[:i]...), tok), text[i:]...)
			case r.Intn(3) == 0:
				text = append(append([]string{}, text[:i]...), text[i+1:]...)
			case r.Intn(2) == 0 && i < j:
				text = append(append([]string{}, text[:i]...), text[j:]...)
			default:
				text[i] = tok
			}
		}
		if wantByRules(t, k, strings.Join(text, " ")) {
			right++
		} else {
			wrong++
		}
	}
	if right < 100 || wrong < 100 {
		t.Errorf("%d right and %d wrong ones say little", right, wrong)
	}
}

// TestAnyTokens takes tokens without an order, behind what lets them stand.
func TestAnyTokens(t *testing.T) {
	k := newWalk()
	tokens := strings.Fields("a f 1 true ( ) ( ) [ ] { } , ; ; = = ! - + * < == && || if else while let return")
	for seed := range int64(4000) {
		r := rand.New(rand.NewSource(seed))
		s := []string{"", "func f ( ) { ", "func f ( ) { return ", "func f ( ) { a ", "func f ( ) { if a { } "}[r.Intn(5)]
		for range r.Intn(12) {
			s += tokens[r.Intn(len(tokens))] + " "
		}
		wantByRules(t, k, s)
	}
}

// TestAnyBytes asks for an answer, whatever the bytes: a program or a fault, never both.
func TestAnyBytes(t *testing.T) {
	r := rand.New(rand.NewSource(1))
	for range 20000 {
		b := make([]byte, r.Intn(30))
		for i := range b {
			b[i] = byte(r.Intn(256))
			if r.Intn(4) > 0 {
				b[i] = "af1(){}[];,=!-<&|+ \nvarfunc"[r.Intn(27)]
			}
		}
		p, f := parse.Program(string(b))
		if f.E == api.OK && f.At != (api.Pos{}) || f.E != api.OK && (p.Globals != nil || p.Funcs != nil || f.At.Line < 1 || f.At.Col < 1) {
			t.Errorf("%q: %v beside %v", b, f, p)
		}
	}
}
