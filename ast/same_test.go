package ast_test

import (
	"testing"

	"palings/api"
	"palings/ast"
	"palings/word"
)

var elsewhere = api.Pos{Line: 7, Col: 9}

// mixedExpr, mixedStmt and mixedProg have something in each field, new at each call, so that a test may change its own.
func mixedExpr() ast.Expr {
	return ast.Expr{Kind: ast.Both, Num: 3, Name: "a", Op: word.Add, Kids: []ast.Expr{
		{Kind: ast.Num, Num: 1},
		{Kind: ast.Call, Name: "f", Kids: []ast.Expr{{Kind: ast.Var, Name: "x"}}},
	}}
}

func mixedStmt() ast.Stmt {
	return ast.Stmt{Does: ast.If, Name: "s",
		E:    []ast.Expr{mixedExpr(), {Kind: ast.Truth, Num: 1}},
		Then: []ast.Stmt{{Does: ast.Return, E: []ast.Expr{{Kind: ast.Num, Num: 4}}}},
		Else: []ast.Stmt{{Does: ast.While, Then: []ast.Stmt{{Does: ast.Run}}}},
	}
}

func mixedProg() ast.Prog {
	return ast.Prog{
		Globals: []ast.Global{{Name: "g", Hold: ast.Open, Size: 4}, {Name: "h"}},
		Funcs:   []ast.Func{{Name: "f", Params: []string{"p", "q"}, Body: []ast.Stmt{mixedStmt()}}, {Name: "main"}},
	}
}

func TestSameOfExpressions(t *testing.T) {
	for name, c := range map[string]struct {
		change func(*ast.Expr)
		same   bool
	}{
		"nothing":         {func(e *ast.Expr) {}, true},
		"place":           {func(e *ast.Expr) { e.At = elsewhere }, true},
		"place of a kid":  {func(e *ast.Expr) { e.Kids[0].At = elsewhere }, true},
		"place deep down": {func(e *ast.Expr) { e.Kids[1].Kids[0].At = elsewhere }, true},
		"empty kids":      {func(e *ast.Expr) { e.Kids[0].Kids = []ast.Expr{} }, true},
		"kind":            {func(e *ast.Expr) { e.Kind = ast.Or }, false},
		"number":          {func(e *ast.Expr) { e.Num = 4 }, false},
		"name":            {func(e *ast.Expr) { e.Name = "b" }, false},
		"op":              {func(e *ast.Expr) { e.Op = word.Sub }, false},
		"no kids":         {func(e *ast.Expr) { e.Kids = nil }, false},
		"a kid less":      {func(e *ast.Expr) { e.Kids = e.Kids[:1] }, false},
		"a kid more":      {func(e *ast.Expr) { e.Kids = append(e.Kids, ast.Expr{}) }, false},
		"kids turned":     {func(e *ast.Expr) { e.Kids[0], e.Kids[1] = e.Kids[1], e.Kids[0] }, false},
		"first kid":       {func(e *ast.Expr) { e.Kids[0].Num = 2 }, false},
		"last kid":        {func(e *ast.Expr) { e.Kids[1].Name = "g" }, false},
		"deep down":       {func(e *ast.Expr) { e.Kids[1].Kids[0].Name = "y" }, false},
	} {
		a, b := mixedExpr(), mixedExpr()
		c.change(&b)
		if a.Same(b) != c.same || b.Same(a) != c.same {
			t.Errorf("%s: %v and %v, not %v", name, a.Same(b), b.Same(a), c.same)
		}
	}
	if !(ast.Expr{}).Same(ast.Expr{}) {
		t.Error("an expression without anything isn't the same as itself")
	}
}

func TestSameOfStatements(t *testing.T) {
	for name, c := range map[string]struct {
		change func(*ast.Stmt)
		same   bool
	}{
		"nothing":                {func(s *ast.Stmt) {}, true},
		"place":                  {func(s *ast.Stmt) { s.At = elsewhere }, true},
		"place of an expression": {func(s *ast.Stmt) { s.E[0].Kids[0].At = elsewhere }, true},
		"place in Then":          {func(s *ast.Stmt) { s.Then[0].At = elsewhere }, true},
		"place in Else":          {func(s *ast.Stmt) { s.Else[0].Then[0].At = elsewhere }, true},
		"empty lists":            {func(s *ast.Stmt) { s.Then[0].Then, s.Then[0].Else = []ast.Stmt{}, []ast.Stmt{} }, true},
		"empty expressions":      {func(s *ast.Stmt) { s.Else[0].E = []ast.Expr{} }, true},
		"what it does":           {func(s *ast.Stmt) { s.Does = ast.While }, false},
		"name":                   {func(s *ast.Stmt) { s.Name = "t" }, false},
		"first expression":       {func(s *ast.Stmt) { s.E[0].Kids[0].Num = 9 }, false},
		"last expression":        {func(s *ast.Stmt) { s.E[1].Num = 0 }, false},
		"an expression less":     {func(s *ast.Stmt) { s.E = s.E[:1] }, false},
		"within Then":            {func(s *ast.Stmt) { s.Then[0].E[0].Num = 5 }, false},
		"no Then":                {func(s *ast.Stmt) { s.Then = nil }, false},
		"within Else":            {func(s *ast.Stmt) { s.Else[0].Then[0].Does = ast.Set }, false},
		"no Else":                {func(s *ast.Stmt) { s.Else = nil }, false},
		"blocks turned":          {func(s *ast.Stmt) { s.Then, s.Else = s.Else, s.Then }, false},
	} {
		a, b := mixedStmt(), mixedStmt()
		c.change(&b)
		if a.Same(b) != c.same || b.Same(a) != c.same {
			t.Errorf("%s: %v and %v, not %v", name, a.Same(b), b.Same(a), c.same)
		}
	}
}

func TestSameOfPrograms(t *testing.T) {
	for name, c := range map[string]struct {
		change func(*ast.Prog)
		same   bool
	}{
		"nothing":              {func(p *ast.Prog) {}, true},
		"place of a global":    {func(p *ast.Prog) { p.Globals[0].At = elsewhere }, true},
		"place of a function":  {func(p *ast.Prog) { p.Funcs[0].At = elsewhere }, true},
		"place of a statement": {func(p *ast.Prog) { p.Funcs[0].Body[0].At = elsewhere }, true},
		"empty lists":          {func(p *ast.Prog) { p.Funcs[1].Params, p.Funcs[1].Body = []string{}, []ast.Stmt{} }, true},
		"name of a global":     {func(p *ast.Prog) { p.Globals[1].Name = "i" }, false},
		"hold":                 {func(p *ast.Prog) { p.Globals[0].Hold = ast.Closed }, false},
		"size":                 {func(p *ast.Prog) { p.Globals[0].Size = 5 }, false},
		"a global less":        {func(p *ast.Prog) { p.Globals = p.Globals[:1] }, false},
		"globals turned":       {func(p *ast.Prog) { p.Globals[0], p.Globals[1] = p.Globals[1], p.Globals[0] }, false},
		"name of a function":   {func(p *ast.Prog) { p.Funcs[0].Name = "g" }, false},
		"a param":              {func(p *ast.Prog) { p.Funcs[0].Params[1] = "r" }, false},
		"a param less":         {func(p *ast.Prog) { p.Funcs[0].Params = p.Funcs[0].Params[:1] }, false},
		"params turned":        {func(p *ast.Prog) { p.Funcs[0].Params = []string{"q", "p"} }, false},
		"body":                 {func(p *ast.Prog) { p.Funcs[0].Body[0].Name = "t" }, false},
		"no body":              {func(p *ast.Prog) { p.Funcs[0].Body = nil }, false},
		"a function less":      {func(p *ast.Prog) { p.Funcs = p.Funcs[:1] }, false},
		"a function more":      {func(p *ast.Prog) { p.Funcs = append(p.Funcs, ast.Func{}) }, false},
	} {
		a, b := mixedProg(), mixedProg()
		c.change(&b)
		if a.Same(b) != c.same || b.Same(a) != c.same {
			t.Errorf("%s: %v and %v, not %v", name, a.Same(b), b.Same(a), c.same)
		}
	}
	if !(ast.Prog{}).Same(ast.Prog{Globals: []ast.Global{}, Funcs: []ast.Func{}}) {
		t.Error("nil and empty aren't one")
	}
}
