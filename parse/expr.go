package parse

import (
	"palings/api"
	"palings/ast"
	"palings/lex"
	"palings/word"
)

func (r *reader) expr() ast.Expr {
	r.enter()
	defer r.leave()
	return r.chain(r.and, "||")
}

func (r *reader) and() ast.Expr { return r.chain(r.rel, "&&") }

// rel is no chain: behind two sums there is no further comparison.
func (r *reader) rel() ast.Expr {
	e := r.sum()
	if r.sees("==", "!=", "<", "<=", ">", ">=") {
		mark := r.take()
		e = joined(mark, e, r.sum())
	}
	return e
}

func (r *reader) sum() ast.Expr { return r.chain(r.term, "+", "-", "|", "^") }

func (r *reader) term() ast.Expr { return r.chain(r.unary, "*", "/", "%", "&", "<<", ">>") }

// chain is parts with marks between them; the left ones belong together first.
func (r *reader) chain(part func() ast.Expr, marks ...string) ast.Expr {
	e := part()
	for r.sees(marks...) {
		mark := r.take()
		e = joined(mark, e, part())
	}
	return e
}

// joined is two expressions with a mark between them.
func joined(mark lex.Token, a, b ast.Expr) ast.Expr {
	switch mark.Text {
	case "||":
		return ast.Expr{Kind: ast.Or, At: mark.At, Kids: []ast.Expr{a, b}}
	case "&&":
		return ast.Expr{Kind: ast.And, At: mark.At, Kids: []ast.Expr{a, b}}
	case ">":
		return both(word.Lt, mark.At, b, a)
	case ">=":
		return both(word.Le, mark.At, b, a)
	}
	return both(written(mark.Text), mark.At, a, b)
}

func both(o word.Op, at api.Pos, a, b ast.Expr) ast.Expr {
	return ast.Expr{Kind: ast.Both, At: at, Op: o, Kids: []ast.Expr{a, b}}
}

// written is the op of a sign.
func written(sign string) word.Op {
	o := word.Add
	for o.Known() && ast.Sign(o) != sign {
		o++
	}
	return o
}

func (r *reader) unary() ast.Expr {
	t := r.now()
	switch {
	case t.Text == "!":
		return ast.Expr{Kind: ast.Not, At: t.At, Kids: []ast.Expr{r.operand()}}
	case t.Text == "-":
		return both(word.Sub, t.At, ast.Expr{Kind: ast.Num, At: t.At}, r.operand())
	case t.Text == "(":
		r.take()
		e := r.expr()
		r.must(")")
		return e
	case t.Text == "true" || t.Text == "false":
		r.take()
		return ast.Expr{Kind: ast.Truth, At: t.At, Num: word.Bool(t.Text == "true")}
	case t.Kind == lex.Number:
		r.take()
		return ast.Expr{Kind: ast.Num, At: t.At, Num: t.Num}
	case t.Kind == lex.Name:
		r.take()
		return r.named(t)
	}
	r.refuse()
	return ast.Expr{}
}

// operand is what stands behind ! and -; it goes deeper ahead of the mark, which is the place of that fault.
func (r *reader) operand() ast.Expr {
	r.enter()
	defer r.leave()
	r.take()
	return r.unary()
}

// named is what a name begins.
func (r *reader) named(name lex.Token) ast.Expr {
	e := ast.Expr{Kind: ast.Var, At: name.At, Name: name.Text}
	switch {
	case r.skip("["):
		e.Kind = ast.Index
		e.Kids = []ast.Expr{r.expr()}
		r.must("]")
	case r.skip("("):
		e.Kind = ast.Call
		if !r.sees(")") {
			e.Kids = r.arguments()
		}
		r.must(")")
	}
	return e
}

func (r *reader) arguments() []ast.Expr {
	out := []ast.Expr{r.expr()}
	for r.skip(",") {
		out = append(out, r.expr())
	}
	return out
}
