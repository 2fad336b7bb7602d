package check_test

import (
	"reflect"
	"strings"
	"testing"

	"palings/api"
	"palings/check"
	"palings/parse"
)

func TestErrorsOfTexts(t *testing.T) {
	for _, c := range []tell{
		{"func main() { return @x; }", api.ErrName},
		{"func main() { return @#; }", api.ErrSign},
		{"func main() { return x; } @#", api.ErrSign},
		{"func main() { return @99999999999999999999; }", api.ErrNumber},
		{"func main() { return x; @", api.ErrToken},
		{"var a; var a; func main() { 1@; }", api.ErrToken},
		{"var a[@0]; var a; func main() { }", api.ErrSize},
		{"var a[@4097]; var a; func main() { }", api.ErrSize},
		{"@func f() { }", api.ErrMain},
		{"@", api.ErrMain},
		{"var a; func@", api.ErrToken},
	} {
		c.try(t)
	}
}

func TestErrorsOfLongAndDeepTexts(t *testing.T) {
	deep := func(n int) string {
		return "func main() { return " + strings.Repeat("(", n) + "1" + strings.Repeat(")", n) + "; }"
	}
	for s, want := range map[string]api.Errno{
		"func main() { return x; }" + strings.Repeat(" ", api.MaxText): api.ErrLong,
		deep(api.MaxNest): api.ErrNest,
		deep(10):          api.OK,
	} {
		_, byParse := parse.Program(s)
		p, info, got := check.Text(s)
		if got.E != want || got != byParse {
			t.Error(len(s), got, byParse)
		}
		if want != api.OK && (len(p.Funcs) > 0 || !noInfo(info)) {
			t.Error(len(s), p, info)
		}
	}
}

func TestProgramsOfTexts(t *testing.T) {
	for _, s := range []string{
		"func main() { }",
		"public a; secret b[7]; func f(x, y) { if x < y { return b[x]; } return a; } func main() { let t = f(1, 2); b[t] = a; return t; }",
	} {
		want, _ := parse.Program(s)
		p, info, fault := check.Text(s)
		byTree, _ := check.Program(want)
		if fault.E != api.OK || !reflect.DeepEqual(p, want) || !reflect.DeepEqual(info, byTree) {
			t.Error(s, p, info, fault)
		}
	}
}
