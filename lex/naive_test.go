package lex_test

import (
	"math/big"
	"regexp"
	"strings"
	"testing"

	"palings/api"
	"palings/lex"
)

// naive is the tokens of a text by patterns, each tried at the beginning of what is left; places by counting what stands ahead.
func naive(s string) ([]lex.Token, lex.Fault) {
	var out []lex.Token
	for i := 0; i < len(s); {
		rest := s[i:]
		if n := len(nothing.FindString(rest)); n > 0 {
			i += n
			continue
		}
		at := place(s, i)
		found := some.FindStringSubmatch(rest)
		if found == nil {
			return nil, lex.Fault{E: api.ErrSign, At: at}
		}
		t := lex.Token{Text: found[0], At: at}
		switch {
		case found[1] != "" && strings.Contains(" "+words+" ", " "+found[1]+" "):
			t.Kind = lex.Word
		case found[1] != "":
			t.Kind = lex.Name
		case found[2] != "":
			n, _ := new(big.Int).SetString(found[2], 10)
			if !n.IsInt64() {
				return nil, lex.Fault{E: api.ErrNumber, At: at}
			}
			t.Kind, t.Num = lex.Number, n.Int64()
		default:
			t.Kind = lex.Mark
		}
		out = append(out, t)
		i += len(found[0])
	}
	return append(out, lex.Token{At: place(s, len(s))}), lex.Fault{}
}

var nothing = regexp.MustCompile(`^(?:[ \t\n\r]|//[^\n]*)`)

var some = regexp.MustCompile(`^(?:([a-zA-Z_][a-zA-Z_0-9]*)|([0-9]+)|(&&|\|\||==|!=|<=|>=|<<|>>|[-+*/%&|^<>=!(){}\[\],;]))`)

func place(s string, i int) api.Pos {
	return api.Pos{Line: 1 + strings.Count(s[:i], "\n"), Col: i - strings.LastIndex(s[:i], "\n")}
}

func wantNaive(t *testing.T, s string) {
	t.Helper()
	want, fault := naive(s)
	if fault.E != api.OK {
		wantFault(t, s, fault.E, fault.At)
		return
	}
	wantTokens(t, s, want...)
}

// TestAllShort: each text of at most five of some signs.
func TestAllShort(t *testing.T) {
	signs := []string{"a", "0", " ", "\n", "/", "&", "=", "<", "$"}
	texts := []string{""}
	for range 5 {
		var longer []string
		for _, s := range texts {
			wantNaive(t, s)
			for _, c := range signs {
				longer = append(longer, s+c)
			}
		}
		if t.Failed() {
			return
		}
		texts = longer
	}
	for _, s := range texts {
		wantNaive(t, s)
	}
}

// TestPieces: texts of pieces in an order by a fixed rule.
func TestPieces(t *testing.T) {
	pieces := append(strings.Fields(marks+" "+words), " ", "\t", "\n", "\r", "// a $\n", "//", "x", "_y", "if1", "0", "42", "9223372036854775807", "Z", "\r\n", " ")
	rare := []string{"9223372036854775808", "$", "\xff", "\x00", "0000000000000000000000001"}
	seed := uint32(1)
	next := func(n int) int {
		seed = seed*1664525 + 1013904223
		return int(seed>>8) % n
	}
	for range 3000 {
		var b strings.Builder
		for range next(40) {
			if next(150) == 0 {
				b.WriteString(rare[next(len(rare))])
			}
			b.WriteString(pieces[next(len(pieces))])
		}
		wantNaive(t, b.String())
	}
}
