package run

import (
	"palings/ast"
	"palings/check"
	"palings/word"
)

// writer writes the plan of a program without a fault: it asks nothing again that layer 5 has asked.
type writer struct {
	plan
	info  check.Info
	words map[string]int // which of a call's words a name is, as far as it is known where it stands
	most  int            // how many of them there were at once
}

func laidFlat(p ast.Prog, info check.Info) plan {
	w := &writer{info: info}
	for _, f := range p.Funcs {
		w.function(f)
	}
	return w.plan
}

func (w *writer) function(f ast.Func) {
	w.words, w.most = map[string]int{}, 0
	start := w.here()
	for _, name := range f.Params {
		w.know(name)
	}
	w.block(f.Body)
	w.number(0)
	w.add(comeBack, 0)
	w.bodies = append(w.bodies, body{start: start, params: len(f.Params), words: w.most})
}

// know gives a name the first word that is free: those ahead belong to the names that are known, for a block's end takes the last ones away.
func (w *writer) know(name string) int {
	at := len(w.words)
	w.words[name] = at
	w.most = max(w.most, at+1)
	return at
}

// here is where the next order will stand.
func (w *writer) here() int { return len(w.orders) }

func (w *writer) add(d deed, n int) {
	w.orders = append(w.orders, order{deed: d, n: int64(n)})
}

func (w *writer) number(n int64) {
	w.orders = append(w.orders, order{deed: layNumber, n: n})
}

// ahead writes an order that goes on somewhere behind it, and tells where it stands.
func (w *writer) ahead(d deed) int {
	w.add(d, 0)
	return w.here() - 1
}

// toHere lets an order that was written ahead go on at the next one.
func (w *writer) toHere(at int) { w.orders[at].n = int64(w.here()) }

// block forgets at its end what was let in it.
func (w *writer) block(list []ast.Stmt) {
	for _, s := range list {
		w.stmt(s)
	}
	for _, s := range list {
		if s.Does == ast.Let {
			delete(w.words, s.Name)
		}
	}
}

func (w *writer) stmt(s ast.Stmt) {
	w.add(takeStep, 0)
	top := w.here()
	w.expr(s.E[0])
	switch s.Does {
	case ast.Let:
		w.add(setLocal, w.know(s.Name))
	case ast.Set:
		w.variable(s.Name, setLocal, setWord)
	case ast.Put:
		w.expr(s.E[1])
		w.add(putItem, w.info.Globals[s.Name])
	case ast.If:
		w.choice(s)
	case ast.While:
		w.loop(s, top)
	case ast.Return:
		w.add(comeBack, 0)
	case ast.Run:
		w.add(drop, 0)
	}
}

func (w *writer) choice(s ast.Stmt) {
	other := w.ahead(jumpUnless)
	w.block(s.Then)
	end := w.ahead(jump)
	w.toHere(other)
	w.block(s.Else)
	w.toHere(end)
}

// loop comes back to its truth, behind the step of the statement, which is run once. An Else, which no text gives a While, has no way on which it would be run.
func (w *writer) loop(s ast.Stmt, top int) {
	end := w.ahead(jumpUnless)
	w.block(s.Then)
	w.add(jump, top)
	w.toHere(end)
}

// variable does the one thing to what a name is in the call, or the other to a global's word, if it is nothing there.
func (w *writer) variable(name string, local, global deed) {
	if at, ok := w.words[name]; ok {
		w.add(local, at)
		return
	}
	w.add(global, w.info.Globals[name])
}

func (w *writer) expr(e ast.Expr) {
	w.add(takeStep, 0)
	switch e.Kind {
	case ast.Num:
		w.number(e.Num)
	case ast.Truth:
		w.number(word.Bool(e.Num != 0))
	case ast.Var:
		w.variable(e.Name, getLocal, getWord)
	case ast.And:
		w.either(e, leaveIfNot)
	case ast.Or:
		w.either(e, leaveIfSo)
	default:
		w.whole(e)
	}
}

// either has its second Kid reckoned only where the first one isn't the answer.
func (w *writer) either(e ast.Expr, leave deed) {
	w.expr(e.Kids[0])
	end := w.ahead(leave)
	w.expr(e.Kids[1])
	w.toHere(end)
}

// whole is an expression that has all its Kids reckoned.
func (w *writer) whole(e ast.Expr) {
	for _, kid := range e.Kids {
		w.expr(kid)
	}
	switch e.Kind {
	case ast.Index:
		w.add(getItem, w.info.Globals[e.Name])
	case ast.Call:
		w.add(callIn, w.info.Funcs[e.Name])
	case ast.Both:
		w.add(doOp, int(e.Op))
	case ast.Not:
		w.add(doNot, 0)
	}
}
