// Package word is layer 1: see shared/doc/01-word.md.
package word

// Op is something that is done to two words.
type Op int

// The ops.
const (
	Add Op = iota + 1
	Sub
	Mul
	Div
	Mod
	And
	Or
	Xor
	Shl
	Shr
	Eq
	Ne
	Lt
	Le
	Below
)

// shiftBits keeps what a shift hangs on: the lowest six bits, so that none goes beyond the word.
const shiftBits = 63

// Known tells whether there is such an op.
func (o Op) Known() bool { return Add <= o && o <= Below }

// String is an op's name.
func (o Op) String() string {
	if !o.Known() {
		return "?"
	}
	return names[o-Add]
}

// names is the ops' names, in the order of the ops.
var names = [...]string{"add", "sub", "mul", "div", "mod", "and", "or", "xor", "shl", "shr", "eq", "ne", "lt", "le", "below"}

// Truth tells whether an op says yes or no.
func (o Op) Truth() bool { return Eq <= o && o <= Below }

// Divides tells whether an op divides.
func (o Op) Divides() bool { return o == Div || o == Mod }

// Swaps tells whether an op is the same the other way round.
func (o Op) Swaps() bool {
	switch o {
	case Add, Mul, And, Or, Xor, Eq, Ne:
		return true
	}
	return false
}

// Bool is a truth as a word.
func Bool(b bool) int64 {
	if b {
		return 1
	}
	return 0
}

// Do is what an op makes of two words; false: it divides by nought, or there is no such op.
func Do(o Op, a, b int64) (int64, bool) {
	switch {
	case !o.Known():
		return 0, false
	case o.Divides():
		return divide(o, a, b)
	case o.Truth():
		return Bool(holds(o, a, b)), true
	}
	return reckon(o, a, b), true
}

// divide leaves the least number by -1 to the language, which wraps it as the document asks.
func divide(o Op, a, b int64) (int64, bool) {
	if b == 0 {
		return 0, false
	}
	if o == Div {
		return a / b, true
	}
	return a % b, true
}

// holds is what an op that says yes or no says.
func holds(o Op, a, b int64) bool {
	switch o {
	case Eq:
		return a == b
	case Ne:
		return a != b
	case Lt:
		return a < b
	case Le:
		return a <= b
	}
	return uint64(a) < uint64(b)
}

// reckon is what the ops make that neither divide nor say yes or no.
func reckon(o Op, a, b int64) int64 {
	switch o {
	case Add:
		return a + b
	case Sub:
		return a - b
	case Mul:
		return a * b
	case And:
		return a & b
	case Or:
		return a | b
	case Xor:
		return a ^ b
	case Shl:
		return a << uint64(b&shiftBits)
	}
	return a >> uint64(b&shiftBits)
}
