package run

import (
	"slices"

	"hourglass/api"
	"hourglass/arena"
	"hourglass/check"
)

// code is a program as a row of orders. Its first ones call Main and stop.
type code struct {
	orders []order
	// starts are the places at which the functions' orders begin.
	starts map[api.ID]int
}

// order is one thing that the machine does, with those of the other fields that
// it needs: a number or a sign, a variable or a function, and another place.
type order struct {
	do  int
	num int64
	id  api.ID
	to  int
}

// What the machine does. It takes values from the top of a pile, and puts what
// it makes of them there.
const (
	burn    = iota // use fuel
	put            // put the number
	load           // put the variable's value
	store          // take the variable's new value
	fetch          // put the next number of the input
	negate         // take a number, put its negative
	invert         // take a truth, put the other one
	combine        // take two values, put what the sign makes of them
	tell           // take a value, and add it to the trace
	drop           // take a value
	jump           // go on at the other place
	unless         // take a truth, and jump if it is 0
	decide         // if the number is at the top, jump, else take what is there
	enter          // go on in the function
	leave          // go on after the call
	stop           // take the value of Main
)

// translator is for programs that are right: it goes down as far as they reach.
type translator struct {
	a *arena.Arena
	code
}

func translate(a *arena.Arena) code {
	t := translator{a: a, code: code{starts: map[api.ID]int{}}}
	t.call(check.Main(a))
	t.add(order{do: stop})
	for _, m := range check.Modules(a) {
		for _, f := range check.Funcs(a, m) {
			t.function(f)
		}
	}
	return t.code
}

// add returns the place of the order.
func (t *translator) add(o order) int {
	t.orders = append(t.orders, o)
	return len(t.orders) - 1
}

// land makes an order jump to the one that is added next.
func (t *translator) land(from int) {
	t.orders[from].to = len(t.orders)
}

func (t *translator) call(f api.ID) {
	t.add(order{do: burn})
	t.add(order{do: enter, id: f})
}

func (t *translator) function(f api.ID) {
	t.starts[f] = len(t.orders)
	n, _ := t.a.Get(f)
	body := len(n.Kids) - 1
	// The last argument is at the top.
	for _, parameter := range slices.Backward(n.Kids[:body]) {
		t.add(order{do: store, id: parameter})
	}
	t.block(n.Kids[body])
}

func (t *translator) block(id api.ID) {
	n, _ := t.a.Get(id)
	for _, kid := range n.Kids {
		t.statement(kid)
	}
}

// statement: each one first uses fuel and then evaluates its first child, a
// While each time when it looks at its condition.
func (t *translator) statement(id api.ID) {
	n, _ := t.a.Get(id)
	start := t.add(order{do: burn})
	t.expression(n.Kids[0])
	switch n.Kind {
	case arena.Let:
		t.add(order{do: store, id: id})
	case arena.Assign:
		t.add(order{do: store, id: n.Ref})
	case arena.If:
		otherwise := t.add(order{do: unless})
		t.block(n.Kids[1])
		end := t.add(order{do: jump})
		t.land(otherwise)
		t.block(n.Kids[2])
		t.land(end)
	case arena.While:
		end := t.add(order{do: unless})
		t.block(n.Kids[1])
		t.add(order{do: jump, to: start})
		t.land(end)
	case arena.Print:
		t.add(order{do: tell})
	case arena.Do:
		t.add(order{do: drop})
	case arena.Return:
		t.add(order{do: leave})
	}
}

func (t *translator) expression(id api.ID) {
	n, _ := t.a.Get(id)
	if n.Kind == arena.Bin && (n.Num == and || n.Num == or) {
		t.shortcut(n)
		return
	}
	for _, kid := range n.Kids {
		t.expression(kid)
	}
	switch n.Kind {
	case arena.Int, arena.Bool:
		t.add(order{do: put, num: n.Num})
	case arena.Var:
		t.add(order{do: load, id: n.Ref})
	case arena.Not:
		t.add(order{do: invert})
	case arena.Neg:
		t.add(order{do: negate})
	case arena.Bin:
		t.add(order{do: combine, num: n.Num})
	case arena.Call:
		t.call(n.Ref)
	case arena.Read:
		t.add(order{do: fetch})
	}
}

// shortcut: where the left operand does not decide, the right one is the value.
func (t *translator) shortcut(n api.Node) {
	t.expression(n.Kids[0])
	decided := t.add(order{do: decide, num: truth(n.Num == or)})
	t.expression(n.Kids[1])
	t.land(decided)
}
