package lex_test

import (
	"math"
	"strings"
	"testing"

	"palings/api"
	"palings/lex"
)

const marks = "&& || == != <= >= << >> + - * / % & | ^ < > = ! ( ) { } [ ] , ;"

const words = "else false func if let public return secret true var while"

func pos(line, col int) api.Pos { return api.Pos{Line: line, Col: col} }

func name(s string, at api.Pos) lex.Token { return lex.Token{Kind: lex.Name, Text: s, At: at} }

func reserved(s string, at api.Pos) lex.Token { return lex.Token{Kind: lex.Word, Text: s, At: at} }

func mark(s string, at api.Pos) lex.Token { return lex.Token{Kind: lex.Mark, Text: s, At: at} }

func number(s string, n int64, at api.Pos) lex.Token {
	return lex.Token{Kind: lex.Number, Text: s, Num: n, At: at}
}

func end(at api.Pos) lex.Token { return lex.Token{At: at} }

// brief is a text as a test shows it.
func brief(s string) string {
	if len(s) > 60 {
		return s[:60] + ".."
	}
	return s
}

func wantTokens(t *testing.T, s string, want ...lex.Token) {
	t.Helper()
	got, f := lex.All(s)
	if f != (lex.Fault{}) {
		t.Errorf("%q: fault %v", brief(s), f)
		return
	}
	if len(got) != len(want) {
		t.Errorf("%q: %d tokens, want %d: %v", brief(s), len(got), len(want), got)
		return
	}
	for i := range want {
		if got[i] != want[i] {
			t.Errorf("%q: token %d: %v, want %v", brief(s), i, got[i], want[i])
		}
	}
}

func wantFault(t *testing.T, s string, e api.Errno, at api.Pos) {
	t.Helper()
	got, f := lex.All(s)
	if want := (lex.Fault{E: e, At: at}); f != want {
		t.Errorf("%q: fault %v, want %v", brief(s), f, want)
	}
	if len(got) != 0 {
		t.Errorf("%q: tokens beside a fault", brief(s))
	}
}

func TestKindNumbers(t *testing.T) {
	for i, k := range []lex.Kind{lex.End, lex.Name, lex.Number, lex.Word, lex.Mark} {
		if int(k) != i {
			t.Errorf("kind %d is %d", i, int(k))
		}
	}
}

func TestOrdinary(t *testing.T) {
	wantTokens(t, "a<=1", name("a", pos(1, 1)), mark("<=", pos(1, 2)), number("1", 1, pos(1, 4)), end(pos(1, 5)))
	wantTokens(t, "public k[4];\nfunc main() {\n\treturn k[0] + 12; // so\n}\n",
		reserved("public", pos(1, 1)), name("k", pos(1, 8)), mark("[", pos(1, 9)), number("4", 4, pos(1, 10)), mark("]", pos(1, 11)), mark(";", pos(1, 12)),
		reserved("func", pos(2, 1)), name("main", pos(2, 6)), mark("(", pos(2, 10)), mark(")", pos(2, 11)), mark("{", pos(2, 13)),
		reserved("return", pos(3, 2)), name("k", pos(3, 9)), mark("[", pos(3, 10)), number("0", 0, pos(3, 11)), mark("]", pos(3, 12)), mark("+", pos(3, 14)), number("12", 12, pos(3, 16)), mark(";", pos(3, 18)),
		mark("}", pos(4, 1)), end(pos(5, 1)))
}

func TestNothing(t *testing.T) {
	wantTokens(t, "", end(pos(1, 1)))
	wantTokens(t, " ", end(pos(1, 2)))
	wantTokens(t, "\t", end(pos(1, 2)))
	wantTokens(t, "\r", end(pos(1, 2)))
	wantTokens(t, "\n", end(pos(2, 1)))
	wantTokens(t, "\r\n", end(pos(2, 1)))
	wantTokens(t, "\n\r", end(pos(2, 2)))
	wantTokens(t, "\n\n  \n\t", end(pos(4, 2)))
	wantTokens(t, "//", end(pos(1, 3)))
}

// TestEachByte: each byte alone, by the document's lists of signs.
func TestEachByte(t *testing.T) {
	const letters = "abcdefghijklmnopqrstuvwxyzABCDEFGHIJKLMNOPQRSTUVWXYZ_"
	for c := range 256 {
		s := string([]byte{byte(c)})
		switch {
		case c == '\n':
			wantTokens(t, s, end(pos(2, 1)))
		case c == ' ' || c == '\t' || c == '\r':
			wantTokens(t, s, end(pos(1, 2)))
		case strings.Contains(letters, s):
			wantTokens(t, s, name(s, pos(1, 1)), end(pos(1, 2)))
		case strings.Contains("0123456789", s):
			wantTokens(t, s, number(s, int64(c)-48, pos(1, 1)), end(pos(1, 2)))
		case strings.Contains("+-*/%&|^<>=!(){}[],;", s):
			wantTokens(t, s, mark(s, pos(1, 1)), end(pos(1, 2)))
		default:
			wantFault(t, s, api.ErrSign, pos(1, 1))
			wantFault(t, "a1"+s, api.ErrSign, pos(1, 3))
			wantFault(t, "1"+s+"2", api.ErrSign, pos(1, 2))
			wantFault(t, "\n <"+s, api.ErrSign, pos(2, 3))
			wantTokens(t, "//"+s, end(pos(1, 4)))
		}
	}
}

func TestWords(t *testing.T) {
	list := strings.Fields(words)
	if len(list) != 11 {
		t.Fatal(len(list))
	}
	for _, w := range list {
		n := len(w)
		wantTokens(t, w, reserved(w, pos(1, 1)), end(pos(1, n+1)))
		wantTokens(t, w+";", reserved(w, pos(1, 1)), mark(";", pos(1, n+1)), end(pos(1, n+2)))
		for _, s := range []string{w + "1", w + "_", w + "x", "_" + w, "x" + w, w + w, strings.ToUpper(w), strings.ToUpper(w[:1]) + w[1:], w[:n-1]} {
			wantTokens(t, s, name(s, pos(1, 1)), end(pos(1, len(s)+1)))
		}
		wantTokens(t, "1"+w, number("1", 1, pos(1, 1)), reserved(w, pos(1, 2)), end(pos(1, n+2)))
		wantTokens(t, w+" 1", reserved(w, pos(1, 1)), number("1", 1, pos(1, n+2)), end(pos(1, n+3)))
	}
	for _, s := range []string{"int", "for", "const", "break", "main", "bool", "elseif", "ifs", "End", "_", "__", "_9", "a_B9z"} {
		wantTokens(t, s, name(s, pos(1, 1)), end(pos(1, len(s)+1)))
	}
}

func TestNumbers(t *testing.T) {
	noughts := strings.Repeat("0", 1000)
	for _, x := range []struct {
		s string
		n int64
	}{
		{"0", 0}, {"9", 9}, {"10", 10}, {"007", 7}, {"00", 0}, {noughts, 0}, {noughts + "12", 12},
		{"9223372036854775807", math.MaxInt64}, {"9223372036854775800", math.MaxInt64 - 7}, {"9223372036854775799", math.MaxInt64 - 8},
		{"0009223372036854775807", math.MaxInt64}, {noughts + "9223372036854775807", math.MaxInt64},
		{"1000000000000000000", 1e18}, {"999999999999999999", 1e18 - 1}, {"4294967296", 1 << 32},
	} {
		wantTokens(t, x.s, number(x.s, x.n, pos(1, 1)), end(pos(1, len(x.s)+1)))
	}
	wantTokens(t, "0x1F", number("0", 0, pos(1, 1)), name("x1F", pos(1, 2)), end(pos(1, 5)))
	wantTokens(t, "1_0", number("1", 1, pos(1, 1)), name("_0", pos(1, 2)), end(pos(1, 4)))
	wantTokens(t, "-9223372036854775807", mark("-", pos(1, 1)), number("9223372036854775807", math.MaxInt64, pos(1, 2)), end(pos(1, 21)))
	wantFault(t, "1.5", api.ErrSign, pos(1, 2))
}

func TestNumbersTooGreat(t *testing.T) {
	for _, s := range []string{
		"9223372036854775808", "9223372036854775809", "9223372036854775810", "9223372036854775817", "9999999999999999999", "10000000000000000000",
		"18446744073709551615", "18446744073709551616", "18446744073709551617", "27670116110564327424", "92233720368547758070", "92233720368547758080",
		"00009223372036854775808", "340282366920938463463374607431768211456", "1" + strings.Repeat("0", 64), strings.Repeat("9", 1000), strings.Repeat("1", api.MaxText),
	} {
		wantFault(t, s, api.ErrNumber, pos(1, 1))
	}
	wantFault(t, "-9223372036854775808", api.ErrNumber, pos(1, 2))
	wantFault(t, "a =\n\t 9223372036854775808;", api.ErrNumber, pos(2, 3))
	wantFault(t, "x9 99999999999999999999x", api.ErrNumber, pos(1, 4))
}

// TestFirstFault: tokens come from the left, so the leftmost fault is told.
func TestFirstFault(t *testing.T) {
	wantFault(t, "$ 9223372036854775808", api.ErrSign, pos(1, 1))
	wantFault(t, "9223372036854775808 $", api.ErrNumber, pos(1, 1))
	wantFault(t, "9223372036854775808$", api.ErrNumber, pos(1, 1))
	wantFault(t, "a b #\n$", api.ErrSign, pos(1, 5))
	wantFault(t, "// $\n\"", api.ErrSign, pos(2, 1))
}

func TestMarks(t *testing.T) {
	list := strings.Fields(marks)
	if len(list) != 28 {
		t.Fatal(len(list))
	}
	for _, m := range list {
		n := len(m)
		wantTokens(t, m, mark(m, pos(1, 1)), end(pos(1, n+1)))
		wantTokens(t, "a"+m+"1", name("a", pos(1, 1)), mark(m, pos(1, 2)), number("1", 1, pos(1, n+2)), end(pos(1, n+3)))
		if n == 2 {
			wantTokens(t, m[:1]+" "+m[1:], mark(m[:1], pos(1, 1)), mark(m[1:], pos(1, 3)), end(pos(1, 4)))
			wantTokens(t, m[:1]+"\n"+m[1:], mark(m[:1], pos(1, 1)), mark(m[1:], pos(2, 1)), end(pos(2, 2)))
		}
	}
}

// TestLongestMark: where a longer mark fits, none of its parts is told.
func TestLongestMark(t *testing.T) {
	for s, want := range map[string]string{
		"&&&": "&& &", "|||": "|| |", "===": "== =", "====": "== ==", "!==": "!= =", "!!=": "! !=", "<<=": "<< =", "<<<": "<< <", ">>>=": ">> >=", "<=<": "<= <", "<==": "<= =", "=<=": "= <=", "=>": "= >", "=!": "= !",
		"<>": "< >", "&|": "& |", "&=": "& =", "++": "+ +", "--": "- -", "->": "- >", "**": "* *", "!!": "! !", "^^": "^ ^", "%%": "% %", "+=": "+ =", "/=": "/ =", "()": "( )", "[]": "[ ]", "{}": "{ }", ",;": ", ;", ";;": "; ;", "/*": "/ *", "*/": "* /", "/ /": "/ /",
	} {
		wantTexts(t, s, want)
	}
	const signs = "+-*/%&|^<>=!(){}[],;"
	for _, a := range signs {
		for _, b := range signs {
			two := string(a) + string(b)
			if two == "//" {
				wantTexts(t, two, "")
			} else if strings.Contains(" "+marks+" ", " "+two+" ") {
				wantTexts(t, two, two)
			} else {
				wantTexts(t, two, string(a)+" "+string(b))
			}
		}
	}
}

// wantTexts: the tokens' texts, with spaces between.
func wantTexts(t *testing.T, s, want string) {
	t.Helper()
	got, f := lex.All(s)
	if f != (lex.Fault{}) || len(got) == 0 {
		t.Errorf("%q: fault %v", s, f)
		return
	}
	var texts []string
	for _, k := range got[:len(got)-1] {
		if k.Kind == lex.End {
			t.Errorf("%q: an End ahead of the end", s)
		}
		texts = append(texts, k.Text)
	}
	if told := strings.Join(texts, " "); told != want {
		t.Errorf("%q: %s, want %s", s, told, want)
	}
}

func TestRemarks(t *testing.T) {
	wantTokens(t, "// a b $ \xff 99999999999999999999", end(pos(1, 32)))
	wantTokens(t, "a// b\nc", name("a", pos(1, 1)), name("c", pos(2, 1)), end(pos(2, 2)))
	wantTokens(t, "a//", name("a", pos(1, 1)), end(pos(1, 4)))
	wantTokens(t, "a//\n", name("a", pos(1, 1)), end(pos(2, 1)))
	wantTokens(t, "//\n//\n b", name("b", pos(3, 2)), end(pos(3, 3)))
	wantTokens(t, "///a\n/b", mark("/", pos(2, 1)), name("b", pos(2, 2)), end(pos(2, 3)))
	wantTokens(t, "a / /b", name("a", pos(1, 1)), mark("/", pos(1, 3)), mark("/", pos(1, 5)), name("b", pos(1, 6)), end(pos(1, 7)))
	wantTokens(t, "/\n/a", mark("/", pos(1, 1)), mark("/", pos(2, 1)), name("a", pos(2, 2)), end(pos(2, 3)))
	wantTokens(t, "1//2", number("1", 1, pos(1, 1)), end(pos(1, 5)))
	wantTokens(t, "*//", mark("*", pos(1, 1)), end(pos(1, 4)))
	wantTokens(t, "// a\rb", end(pos(1, 7)))
	wantTokens(t, "// a\r\nb", name("b", pos(2, 1)), end(pos(2, 2)))
	wantTokens(t, "/* a */", mark("/", pos(1, 1)), mark("*", pos(1, 2)), name("a", pos(1, 4)), mark("*", pos(1, 6)), mark("/", pos(1, 7)), end(pos(1, 8)))
	wantFault(t, "//\n$", api.ErrSign, pos(2, 1))
	wantFault(t, "# // a", api.ErrSign, pos(1, 1))
}

// TestPlaces: tabs and returns are one column each, as all bytes are; a newline alone ends a line.
func TestPlaces(t *testing.T) {
	wantTokens(t, "\ta\r\n\t\tb\rc", name("a", pos(1, 2)), name("b", pos(2, 3)), name("c", pos(2, 5)), end(pos(2, 6)))
	wantTokens(t, "ab cd\nef", name("ab", pos(1, 1)), name("cd", pos(1, 4)), name("ef", pos(2, 1)), end(pos(2, 3)))
	wantTokens(t, "\n\n\n a", name("a", pos(4, 2)), end(pos(4, 3)))
	wantTokens(t, "// \xc3\xa4\xff\n a", name("a", pos(2, 2)), end(pos(2, 3)))
	wantTokens(t, "a\n", name("a", pos(1, 1)), end(pos(2, 1)))
	wantFault(t, "a\r\n\t \r?", api.ErrSign, pos(2, 4))
	wantFault(t, "\n\n\t9999999999999999999 ", api.ErrNumber, pos(3, 2))
	wantFault(t, "ab\xc3\xa4", api.ErrSign, pos(1, 3))
	wantFault(t, "\x00", api.ErrSign, pos(1, 1))
}

func TestLongest(t *testing.T) {
	const most = 65536
	if api.MaxText != most {
		t.Fatal(api.MaxText)
	}
	full := strings.Repeat("a", most)
	wantTokens(t, full, name(full, pos(1, 1)), end(pos(1, most+1)))
	wantTokens(t, strings.Repeat(" ", most), end(pos(1, most+1)))
	wantTokens(t, strings.Repeat("\n", most), end(pos(most+1, 1)))
	wantTokens(t, strings.Repeat("/", most), end(pos(1, most+1)))
	digits := strings.Repeat("0", most-1) + "5"
	wantTokens(t, digits, number(digits, 5, pos(1, 1)), end(pos(1, most+1)))
	wantFault(t, strings.Repeat(" ", most-1)+"$", api.ErrSign, pos(1, most))
	wantFault(t, strings.Repeat("\n", most-1)+"$", api.ErrSign, pos(most, 1))
	if got, f := lex.All(strings.Repeat(";", most)); f.E != api.OK || len(got) != most+1 {
		t.Error(f, len(got))
	}
}

func TestTooLong(t *testing.T) {
	const above = 65537
	for _, c := range []string{" ", "\n", "a", "0", "9", "/", ";", "$", "\x00"} {
		wantFault(t, strings.Repeat(c, above), api.ErrLong, pos(1, 1))
	}
	wantFault(t, "$"+strings.Repeat(" ", above), api.ErrLong, pos(1, 1))
	wantFault(t, "\n\n$"+strings.Repeat("9", 1<<20), api.ErrLong, pos(1, 1))
}

// TestApart: what is done to one answer is not to be seen in another.
func TestApart(t *testing.T) {
	const s = "if a < 12 { b = 3; }"
	first, _ := lex.All(s)
	for i := range first {
		first[i] = lex.Token{Kind: lex.Mark, Text: "?", Num: 9}
	}
	again, f := lex.All(s)
	if f != (lex.Fault{}) || len(again) != len(first) || again[0].Text != "if" || again[3].Num != 12 {
		t.Error(again, f)
	}
}
