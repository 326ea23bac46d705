package check

import (
	"hourglass/api"
	"hourglass/arena"
)

// Of the signs, which layer 9 numbers from 1 to 13, these are the last ones of
// their sorts.
const (
	lastOfNumbers = 5  // + - * / %: numbers to a number
	lastOfOrder   = 9  // < <= > >=: numbers to a truth
	lastOfEqual   = 11 // == !=: equal types to a truth
	lastOfTruths  = 13 // && ||: truths to a truth
)

func Type(a *arena.Arena, id api.ID) byte {
	n, _ := a.Get(id)
	switch n.Kind {
	case arena.Int, arena.Neg, arena.Read:
		return arena.Number
	case arena.Bool, arena.Not:
		return arena.Truth
	case arena.Var, arena.Call:
		return declared(a, n.Ref)
	case arena.Bin:
		return resulting(n.Num)
	}
	return arena.None
}

// declared returns the type that a variable or a function is given.
func declared(a *arena.Arena, id api.ID) byte {
	n, _ := a.Get(id)
	return n.Type
}

func resulting(op int64) byte {
	switch {
	case op < 1 || op > lastOfTruths:
		return arena.None
	case op <= lastOfNumbers:
		return arena.Number
	}
	return arena.Truth
}

// mistyped reports whether a node has a child that is not of the type that it
// requires.
func mistyped(a *arena.Arena) bool {
	for id, n := range a.Walk(a.Root()) {
		are := func(wanted ...byte) bool {
			return typed(a, n.Kids, wanted)
		}
		right := true
		switch n.Kind {
		case arena.Let:
			right = are(n.Type)
		case arena.Assign:
			right = are(declared(a, n.Ref))
		case arena.Return:
			right = are(declared(a, a.Above(id, arena.Func)))
		case arena.If, arena.While: // their other children are blocks
			right = Type(a, n.Kids[0]) == arena.Truth
		case arena.Not:
			right = are(arena.Truth)
		case arena.Neg:
			right = are(arena.Number)
		case arena.Bin:
			operand := operands(n.Num, Type(a, n.Kids[0]))
			right = are(operand, operand)
		case arena.Call:
			right = are(parameters(a, n.Ref)...)
		}
		if !right {
			return true
		}
	}
	return false
}

func typed(a *arena.Arena, ids []api.ID, wanted []byte) bool {
	if len(ids) != len(wanted) {
		return false
	}
	for i, id := range ids {
		if Type(a, id) != wanted[i] {
			return false
		}
	}
	return true
}

// operands returns the type that both operands of a sign must have, if the left
// one has that type.
func operands(op int64, left byte) byte {
	switch {
	case op <= lastOfOrder:
		return arena.Number
	case op <= lastOfEqual:
		return left
	}
	return arena.Truth
}

func parameters(a *arena.Arena, f api.ID) []byte {
	var l []byte
	for _, p := range kidsOf(a, f, arena.Param) {
		l = append(l, declared(a, p))
	}
	return l
}
