package text

import (
	"strings"

	"hourglass/api"
	"hourglass/arena"
	"hourglass/grammar"
	"hourglass/token"
)

// deepest is how many constructs layer 9 reads that are nested.
const deepest = 90

func kind(a *arena.Arena, id api.ID) byte {
	n, _ := a.Get(id)
	return n.Kind
}

// part returns a letter for what a node can be under another one: m(odule),
// f(unction), p(arameter), B(ody), b(lock), s(tatement), r(eturn), e(xpression).
// A body is a Block that ends with a Return.
func part(a *arena.Arena, id api.ID) byte {
	n, _ := a.Get(id)
	switch n.Kind {
	case arena.Module:
		return 'm'
	case arena.Func:
		return 'f'
	case arena.Param:
		return 'p'
	case arena.Block:
		if last := len(n.Kids) - 1; last >= 0 && kind(a, n.Kids[last]) == arena.Return {
			return 'B'
		}
		return 'b'
	case arena.Let, arena.Assign, arena.If, arena.While, arena.Print, arena.Do:
		return 's'
	case arena.Return:
		return 'r'
	case arena.Int, arena.Bool, arena.Var, arena.Not, arena.Neg, arena.Bin, arena.Call, arena.Read:
		return 'e'
	}
	return '?'
}

// children reports whether a node has those that layer 9 gives its kind.
func children(a *arena.Arena, n api.Node) bool {
	var b strings.Builder
	for _, kid := range n.Kids {
		b.WriteByte(part(a, kid))
	}
	parts := b.String()
	switch n.Kind {
	case arena.Program:
		return strings.Trim(parts, "m") == ""
	case arena.Module:
		return strings.Trim(parts, "f") == ""
	case arena.Func:
		return strings.TrimLeft(parts, "p") == "B"
	case arena.Block:
		rest := strings.TrimLeft(parts, "s")
		return rest == "" || rest == "r"
	case arena.If:
		return parts == "ebb"
	case arena.While:
		return parts == "eb"
	case arena.Let, arena.Assign, arena.Return, arena.Print, arena.Not, arena.Neg:
		return parts == "e"
	case arena.Do:
		return parts == "e" && kind(a, n.Kids[0]) == arena.Call
	case arena.Bin:
		return parts == "ee"
	case arena.Call:
		return strings.Trim(parts, "e") == ""
	case arena.Param, arena.Int, arena.Bool, arena.Var, arena.Read:
		return parts == ""
	}
	return false
}

func fields(a *arena.Arena, n api.Node) bool {
	return named(n) && typed(n) && numbered(n) && refers(a, n)
}

func named(n api.Node) bool {
	switch n.Kind {
	case arena.Module, arena.Func, arena.Param, arena.Let:
		return token.IsName(n.Name)
	}
	return n.Name == ""
}

func typed(n api.Node) bool {
	switch n.Kind {
	case arena.Func, arena.Param, arena.Let:
		return n.Type == arena.Number || n.Type == arena.Truth
	}
	return n.Type == arena.None
}

func numbered(n api.Node) bool {
	switch n.Kind {
	case arena.Int:
		return n.Num >= 0
	case arena.Bool:
		return n.Num == 0 || n.Num == 1
	case arena.Bin:
		return grammar.Sign(n.Num) != ""
	}
	return n.Num == 0
}

func refers(a *arena.Arena, n api.Node) bool {
	to := kind(a, n.Ref)
	switch n.Kind {
	case arena.Assign, arena.Var:
		return to == arena.Param || to == arena.Let
	case arena.Call:
		return to == arena.Func
	}
	return n.Ref == 0
}

// depth is for Trees: it goes down as far as they reach. The braces of a block
// belong to the If or While that has it.
func depth(a *arena.Arena, id api.ID) int {
	n, _ := a.Get(id)
	most := 0
	for _, kid := range n.Kids {
		d := depth(a, kid)
		if (n.Kind == arena.If || n.Kind == arena.While) && kind(a, kid) == arena.Block {
			d++
		}
		most = max(most, d)
	}
	switch n.Kind {
	case arena.Not, arena.Neg, arena.Bin, arena.Call:
		most++
	}
	return most
}
