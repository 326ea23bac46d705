package trial

import (
	"hourglass/api"
	"hourglass/arena"
	"hourglass/op"
)

// Op returns an operation, mostly one that the program can take. Some clash with
// others, or need what others make.
func (c Changer) Op() op.Op {
	o := op.Op{Kind: byte(1 + c.Below(op.SwapParts))}
	switch o.Kind {
	case op.RenameModule:
		o.A, o.Name = c.Pick(arena.Module), c.One("a", "b", "c", "d", "e", "main")
	case op.RenameFunc:
		o.A, o.Name = c.Pick(arena.Func), c.One("f0", "f1", "f2", "g0", "g1", "g2", "main")
	case op.RenameParam:
		o.A, o.Name = c.Pick(arena.Param), c.One("n", "v1", "v2", "x", "y", "z")
	case op.RenameLet:
		o.A, o.Name = c.Pick(arena.Let), c.One("n", "i1", "v1", "v2", "x", "y", "z")
	case op.MoveFunc:
		o.A, o.B = c.Pick(arena.Func), c.Pick(arena.Module)
	case op.ExtractLet:
		o.A, o.Name = c.expression(), c.One("x", "y", "z", "w", "v1")
	case op.InlineLet:
		o.A = c.Pick(arena.Let)
	case op.ExtractFunc:
		o.A, o.B, o.Name = c.expression(), c.Pick(arena.Module), c.One("f1", "g0", "g1", "g2", "h0", "h1")
	case op.InlineCall:
		o.A = c.Pick(arena.Call)
	case op.AddModule:
		o.Name = c.One("a", "b", "c", "d", "e")
	case op.DropModule:
		o.A = c.Pick(arena.Module)
	case op.DropFunc:
		o.A = c.Pick(arena.Func)
	case op.FlipIf:
		o.A = c.Pick(arena.If)
	case op.SwapParts:
		o.A = c.Pick(arena.Bin)
	}
	return o
}

func (c Changer) expression() api.ID {
	return c.Pick(arena.Int, arena.Bool, arena.Var, arena.Not, arena.Neg, arena.Bin, arena.Call, arena.Read)
}
