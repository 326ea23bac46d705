package trial

import (
	"hourglass/api"
	"hourglass/arena"
	"hourglass/check"
)

// Wrong is an arena that is not right, and why.
type Wrong struct {
	Why   string
	Arena *arena.Arena
}

// Wrongs returns arenas that are not right in each way. Those that have more than
// a root have all nodes of the program, too.
func Wrongs(t T, program string) []Wrong {
	t.Helper()
	last := api.ID(Right(t, program).Len())
	a := Right(t, program+" module wrong { func first(x int) int { return x; } func second(y int) int { return y; } }")
	module, x, second, y, read := last+1, last+3, last+7, last+8, last+11
	beside, nothing := a.Copy(), a.Copy()
	beside.Put(last+1000, api.Node{Kind: arena.Int})
	nothing.Drop(1)
	return []Wrong{
		{"nil", nil},
		{"no node", nothing},
		{"only a Program", arena.New()},
		{"a node beside the program", beside},
		{"a Num", With(a, module, func(n *api.Node) { n.Num = 1 })},
		{"no name", With(a, module, func(n *api.Node) { n.Name = "" })},
		{"a clash", With(a, second, func(n *api.Node) { n.Name = "first" })},
		{"a variable of another function", With(a, read, func(n *api.Node) { n.Ref = x })},
		{"another type", With(a, y, func(n *api.Node) { n.Type = arena.Truth })},
		{"no Main", With(a, check.Main(a), func(n *api.Node) { n.Name = "man" })},
	}
}
