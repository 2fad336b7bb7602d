package run

// plan is a program as a list of orders, which need no stack of the host's to be followed: trees may be so deep, in each of so many calls, that it would run out.
type plan struct {
	orders []order
	bodies []body // of the functions, as they stand in the program
}

// body is where the orders of a function begin, and how many words a call of it holds: its Params, and behind them what is let.
type body struct {
	start  int
	params int
	words  int
}

// order is one thing to do. What values it needs it takes from the pile, where it also lays what it makes.
type order struct {
	deed deed
	n    int64 // a number, a word of the call, a global, a function, an op, or the order to go on at
}

// deed is what an order is about; behind each stands what its number is.
type deed int

// The deeds.
const (
	takeStep  deed = iota
	layNumber      // n
	getLocal       // the call's word n
	setLocal
	getWord // the only word of the global n
	setWord
	getItem // a word of the global n, by an index
	putItem
	doOp // the op n
	doNot
	drop
	jump       // to n
	jumpUnless // to n, if a truth isn't so
	leaveIfNot // to n, with a truth, if it isn't so; else that is let go
	leaveIfSo  // to n, with a truth, if it is so; else that is let go
	callIn     // the function n
	comeBack   // with a value
)
