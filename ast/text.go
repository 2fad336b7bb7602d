package ast

import (
	"strconv"
	"strings"

	"palings/word"
)

// missing stands for an expression that isn't there, or has no Kids.
const missing = "?"

// signs is how the ops are written, in their order; Below, behind them, can't be written.
var signs = [...]string{"+", "-", "*", "/", "%", "&", "|", "^", "<<", ">>", "==", "!=", "<", "<="}

// holds is how the kinds of global ones are written, in their order.
var holds = [...]string{"var", "public", "secret"}

// Sign is how an op is written; no text: it can't be.
func Sign(o word.Op) string {
	if o < word.Add || o > word.Le {
		return ""
	}
	return signs[o-word.Add]
}

// Text is an expression as text: whole, or in brackets.
func (e Expr) Text() string {
	var b strings.Builder
	e.write(&b)
	return b.String()
}

// Text is a statement as lines, each with so many tabs ahead.
func (s Stmt) Text(deep int) string {
	var b strings.Builder
	s.write(&b, max(deep, 0))
	return b.String()
}

// Text is a program as text.
func (p Prog) Text() string {
	var b strings.Builder
	for _, g := range p.Globals {
		g.write(&b)
	}
	for _, f := range p.Funcs {
		f.write(&b)
	}
	return b.String()
}

// write lays all parts behind one another in one place: expressions may be so deep that to copy them level by level would take too long.
func (e Expr) write(b *strings.Builder) {
	switch {
	case e.Kind == Num:
		b.WriteString(strconv.FormatInt(e.Num, 10))
	case e.Kind == Truth:
		b.WriteString(strconv.FormatBool(e.Num != 0))
	case e.Kind == Var:
		b.WriteString(e.Name)
	case e.Kind == Call:
		e.writeCall(b)
	case len(e.Kids) == 0:
		b.WriteString(missing)
	case e.Kind == Index:
		b.WriteString(e.Name + "[")
		e.Kids[0].write(b)
		b.WriteString("]")
	case e.Kind == Not:
		b.WriteString("!")
		e.Kids[0].write(b)
	default:
		e.writePair(b)
	}
}

func (e Expr) writeCall(b *strings.Builder) {
	b.WriteString(e.Name + "(")
	for i, kid := range e.Kids {
		if i > 0 {
			b.WriteString(", ")
		}
		kid.write(b)
	}
	b.WriteString(")")
}

func (e Expr) writePair(b *strings.Builder) {
	b.WriteString("(")
	e.Kids[0].write(b)
	b.WriteString(" " + e.between() + " ")
	e.Kids[len(e.Kids)-1].write(b)
	b.WriteString(")")
}

// between is the mark between two Kids.
func (e Expr) between() string {
	switch e.Kind {
	case And:
		return "&&"
	case Or:
		return "||"
	}
	return Sign(e.Op)
}

func (s Stmt) write(b *strings.Builder, deep int) {
	tabs(b, deep)
	switch s.Does {
	case Let:
		b.WriteString("let " + s.Name + " = ")
		s.writeLast(b, 0)
	case Set:
		b.WriteString(s.Name + " = ")
		s.writeLast(b, 0)
	case Put:
		b.WriteString(s.Name + "[")
		s.writeExpr(b, 0)
		b.WriteString("] = ")
		s.writeLast(b, 1)
	case If:
		b.WriteString("if ")
		s.writeBlocks(b, deep)
	case While:
		b.WriteString("while ")
		s.writeBlocks(b, deep)
	case Return:
		b.WriteString("return ")
		s.writeLast(b, 0)
	default:
		s.writeLast(b, 0)
	}
}

func (s Stmt) writeExpr(b *strings.Builder, i int) {
	if i >= len(s.E) {
		b.WriteString(missing)
		return
	}
	s.E[i].write(b)
}

// writeLast writes an expression with which a line ends.
func (s Stmt) writeLast(b *strings.Builder, i int) {
	s.writeExpr(b, i)
	b.WriteString(";\n")
}

// writeBlocks writes what is behind the word of an If or a While.
func (s Stmt) writeBlocks(b *strings.Builder, deep int) {
	s.writeExpr(b, 0)
	b.WriteString(" {\n")
	writeAll(b, s.Then, deep+1)
	tabs(b, deep)
	if len(s.Else) > 0 {
		b.WriteString("} else {\n")
		writeAll(b, s.Else, deep+1)
		tabs(b, deep)
	}
	b.WriteString("}\n")
}

func writeAll(b *strings.Builder, body []Stmt, deep int) {
	for _, s := range body {
		s.write(b, deep)
	}
}

func tabs(b *strings.Builder, deep int) {
	for range deep {
		b.WriteByte('\t')
	}
}

func (g Global) write(b *strings.Builder) {
	b.WriteString(holds[min(max(g.Hold, Own), Closed)] + " " + g.Name)
	if g.Size > 0 {
		b.WriteString("[" + strconv.Itoa(g.Size) + "]")
	}
	b.WriteString(";\n")
}

func (f Func) write(b *strings.Builder) {
	b.WriteString("func " + f.Name + "(" + strings.Join(f.Params, ", ") + ") {\n")
	writeAll(b, f.Body, 1)
	b.WriteString("}\n")
}
