package check_test

import (
	"reflect"
	"strings"
	"testing"

	"palings/api"
	"palings/ast"
	"palings/check"
	"palings/lex"
	"palings/parse"
)

// marked is a text without its @, and the place of that: where its fault is said to be.
func marked(s string) (string, api.Pos) {
	ahead, behind, found := strings.Cut(s, "@")
	if !found {
		return s, api.Pos{}
	}
	line := 1 + strings.Count(ahead, "\n")
	col := len(ahead) - strings.LastIndex(ahead, "\n")
	return ahead + behind, api.Pos{Line: line, Col: col}
}

// tell is a text, with an @ where its fault is, and that fault.
type tell struct {
	text string
	want api.Errno
}

func (c tell) try(t *testing.T) {
	t.Helper()
	text, at := marked(c.text)
	p, info, got := check.Text(text)
	if want := (lex.Fault{E: c.want, At: at}); got != want {
		t.Errorf("%s: %v, want %v", c.text, got, want)
	}
	if got.E != api.OK && (len(p.Globals)+len(p.Funcs) > 0 || !noInfo(info)) {
		t.Errorf("%s: beside the fault %v and %v", c.text, p, info)
	}
	tree, fault := parse.Program(text)
	if fault.E != api.OK {
		return
	}
	byTree, fault := check.Program(tree)
	if fault != got || !reflect.DeepEqual(byTree, info) {
		t.Errorf("%s: the tree has %v and %v, the text %v and %v", c.text, byTree, fault, info, got)
	}
}

func noInfo(i check.Info) bool { return len(i.Globals)+len(i.Funcs) == 0 }

// tryTree asks for the fault of a tree, and that nothing stands beside it.
func tryTree(t *testing.T, what string, p ast.Prog, e api.Errno, at api.Pos) {
	t.Helper()
	info, got := check.Program(p)
	if want := (lex.Fault{E: e, At: at}); got != want {
		t.Errorf("%s: %v, want %v", what, got, want)
	}
	if e != api.OK && !noInfo(info) {
		t.Errorf("%s: beside the fault %v", what, info)
	}
}

// place is one that no part has but the one that is made with it.
func place(n int) api.Pos { return api.Pos{Line: n, Col: 2*n + 1} }

func num(n int) ast.Expr { return ast.Expr{Kind: ast.Num, At: place(n), Num: int64(n)} }

func truth(n int) ast.Expr { return ast.Expr{Kind: ast.Truth, At: place(n), Num: 1} }

func variable(n int, name string) ast.Expr {
	return ast.Expr{Kind: ast.Var, At: place(n), Name: name}
}

// around is a program with the global w, the array h, the functions one(a) and two(a, b), and a main of these statements.
func around(body ...ast.Stmt) ast.Prog {
	return ast.Prog{
		Globals: []ast.Global{{Name: "w", At: place(901)}, {Name: "h", Size: 3, At: place(902)}},
		Funcs: []ast.Func{
			{Name: "one", Params: []string{"a"}, At: place(903)},
			{Name: "main", Body: body, At: place(904)},
			{Name: "two", Params: []string{"a", "b"}, At: place(905)},
		},
	}
}

// let is a program whose only statement lets something be that expression: it may be of either type.
func let(e ast.Expr) ast.Prog {
	return around(ast.Stmt{Does: ast.Let, At: place(900), Name: "fresh", E: []ast.Expr{e}})
}
