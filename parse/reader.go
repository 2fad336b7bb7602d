package parse

import (
	"slices"

	"palings/api"
	"palings/lex"
)

// reader goes through tokens. Behind its first fault it sees the End alone, which no rule takes, so that all that is under way comes back.
type reader struct {
	left  []lex.Token // the last one is the End
	deep  int         // how many parts are around what is read
	fault lex.Fault
}

func (r *reader) now() lex.Token { return r.left[0] }

// take goes on behind a token, which is never the End.
func (r *reader) take() lex.Token {
	t := r.now()
	if t.Kind != lex.End {
		r.left = r.left[1:]
	}
	return t
}

// sees tells whether the next token is one of these words and marks. Its kind needn't be asked: no name and no number is written as they are.
func (r *reader) sees(texts ...string) bool {
	return slices.Contains(texts, r.now().Text)
}

func (r *reader) skip(text string) bool {
	if !r.sees(text) {
		return false
	}
	r.take()
	return true
}

func (r *reader) must(text string) {
	if !r.skip(text) {
		r.refuse()
	}
}

func (r *reader) want(k lex.Kind) lex.Token {
	if r.now().Kind != k {
		r.refuse()
		return lex.Token{}
	}
	return r.take()
}

// refuse says that the next token may not stand there.
func (r *reader) refuse() { r.fail(api.ErrToken, r.now().At) }

// fail keeps the first fault: what comes behind it isn't one of the text.
func (r *reader) fail(e api.Errno, at api.Pos) {
	if r.fault.E == api.OK {
		r.fault = lex.Fault{E: e, At: at}
		r.left = r.left[len(r.left)-1:]
	}
}

// enter goes one part deeper; the caller comes back by a deferred leave.
func (r *reader) enter() {
	if r.deep >= api.MaxNest {
		r.fail(api.ErrNest, r.now().At)
	}
	r.deep++
}

func (r *reader) leave() { r.deep-- }
