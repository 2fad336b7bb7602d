package parse

import (
	"palings/ast"
	"palings/lex"
)

func (r *reader) block() []ast.Stmt {
	r.must("{")
	r.enter()
	defer r.leave()
	var out []ast.Stmt
	for !r.sees("}") && r.now().Kind != lex.End {
		out = append(out, r.stmt())
	}
	r.must("}")
	return out
}

func (r *reader) stmt() ast.Stmt {
	switch r.now().Text {
	case "let":
		return r.let()
	case "if":
		return r.choice()
	case "while":
		return r.loop()
	case "return":
		return r.answer()
	}
	return r.plain()
}

func (r *reader) let() ast.Stmt {
	s := ast.Stmt{Does: ast.Let, At: r.take().At}
	s.Name = r.want(lex.Name).Text
	r.must("=")
	s.E = []ast.Expr{r.expr()}
	r.must(";")
	return s
}

func (r *reader) choice() ast.Stmt {
	s := ast.Stmt{Does: ast.If, At: r.take().At}
	s.E = []ast.Expr{r.expr()}
	s.Then = r.block()
	if r.skip("else") {
		s.Else = r.otherwise()
	}
	return s
}

// otherwise is what stands behind else.
func (r *reader) otherwise() []ast.Stmt {
	if !r.sees("if") {
		return r.block()
	}
	r.enter()
	defer r.leave()
	return []ast.Stmt{r.choice()}
}

func (r *reader) loop() ast.Stmt {
	s := ast.Stmt{Does: ast.While, At: r.take().At}
	s.E = []ast.Expr{r.expr()}
	s.Then = r.block()
	return s
}

func (r *reader) answer() ast.Stmt {
	s := ast.Stmt{Does: ast.Return, At: r.take().At}
	s.E = []ast.Expr{r.expr()}
	r.must(";")
	return s
}

// plain is a statement that begins with an expression: what that is says which token may stand behind it.
func (r *reader) plain() ast.Stmt {
	s := ast.Stmt{At: r.now().At}
	e := r.expr()
	switch {
	case e.Kind == ast.Call:
		s.Does, s.E = ast.Run, []ast.Expr{e}
	case e.Kind == ast.Var && r.skip("="):
		s.Does, s.Name, s.E = ast.Set, e.Name, []ast.Expr{r.expr()}
	case e.Kind == ast.Index && r.skip("="):
		s.Does, s.Name, s.E = ast.Put, e.Name, append(e.Kids, r.expr())
	default:
		r.refuse()
	}
	r.must(";")
	return s
}
