package run_test

import (
	"math"
	"math/rand"
	"testing"

	"hourglass/api"
	"hourglass/arena"
	"hourglass/author"
	"hourglass/check"
	"hourglass/grammar"
	"hourglass/run"
	"hourglass/trial"
)

// model runs programs by calling itself, and panics with the end that is not
// Done.
type model struct {
	a         *arena.Arena
	input     []int64
	fuel      int
	r         run.Result
	variables map[api.ID]int64
}

type ended byte

func modelled(a *arena.Arena, input []int64, fuel int) (r run.Result) {
	m := &model{a: a, input: input, fuel: fuel}
	defer func() {
		if how, ok := recover().(ended); ok {
			m.r.End = byte(how)
		}
		r = m.r
	}()
	m.r.Value = m.call(check.Main(a), nil)
	return
}

func (m *model) node(id api.ID) api.Node {
	n, ok := m.a.Get(id)
	if !ok {
		panic("no such node")
	}
	return n
}

func (m *model) use() {
	if m.fuel == 0 {
		panic(ended(run.Spent))
	}
	m.fuel--
	m.r.Used++
}

func (m *model) call(f api.ID, arguments []int64) int64 {
	m.use()
	callers := m.variables
	m.variables = map[api.ID]int64{}
	kids := m.node(f).Kids
	for i, value := range arguments {
		m.variables[kids[i]] = value
	}
	value := m.block(kids[len(arguments)])
	m.variables = callers
	return value
}

// block returns what its Return does, if it has one.
func (m *model) block(id api.ID) (value int64) {
	for _, kid := range m.node(id).Kids {
		value = m.statement(kid)
	}
	return value
}

func (m *model) statement(id api.ID) int64 {
	n := m.node(id)
	if n.Kind == arena.While {
		for m.use(); m.value(n.Kids[0]) == 1; m.use() {
			m.block(n.Kids[1])
		}
		return 0
	}
	m.use()
	value := m.value(n.Kids[0])
	switch n.Kind {
	case arena.Let:
		m.variables[id] = value
	case arena.Assign:
		m.variables[n.Ref] = value
	case arena.If:
		m.block(n.Kids[2-value])
	case arena.Print:
		m.r.Trace = append(m.r.Trace, value)
	}
	return value
}

func (m *model) value(id api.ID) int64 {
	n := m.node(id)
	switch n.Kind {
	case arena.Var:
		value, ok := m.variables[n.Ref]
		if !ok {
			panic("no such variable")
		}
		return value
	case arena.Not:
		return truth(m.value(n.Kids[0]) == 0)
	case arena.Neg:
		return ^m.value(n.Kids[0]) + 1
	case arena.Bin:
		return m.both(grammar.Sign(n.Num), n.Kids[0], n.Kids[1])
	case arena.Call:
		var arguments []int64
		for _, kid := range n.Kids {
			arguments = append(arguments, m.value(kid))
		}
		return m.call(n.Ref, arguments)
	case arena.Read:
		m.r.Read++
		if len(m.input) == 0 {
			return 0
		}
		next := m.input[0]
		m.input = m.input[1:]
		return next
	}
	return n.Num
}

func (m *model) both(sign string, left, right api.ID) int64 {
	x := m.value(left)
	if sign == "&&" && x == 0 || sign == "||" && x == 1 {
		return x
	}
	value, ok := evaluated(sign, x, m.value(right))
	if !ok {
		panic(ended(run.Trap))
	}
	return value
}

func TestAgainstModel(t *testing.T) {
	r := rand.New(rand.NewSource(1))
	ends := map[byte]int{}
	long := 0
	for range 1000 {
		program := author.Program(r.Intn)
		a := right(t, program)
		var input []int64
		for range r.Intn(12) {
			input = append(input, []int64{0, 1, 2, 3, -1, math.MinInt64, math.MaxInt64, r.Int63()}[r.Intn(8)])
		}
		whole := run.Run(a, input, 5000)
		wantResult(t, program, whole, modelled(a, input, 5000))
		ends[whole.End]++
		if whole.Used > 20 {
			long++
		}
		wantResult(t, program, run.Run(trial.Scattered(r.Intn, a), input, 5000), whole)
		for _, fuel := range []int{r.Intn(whole.Used + 1), whole.Used - 1, whole.Used} {
			wantResult(t, program, run.Run(a, input, fuel), modelled(a, input, fuel))
		}
	}
	if ends[run.Done] < 300 || ends[run.Trap] < 200 || ends[run.Spent] < 30 || long < 300 {
		t.Error("these programs show too little:", ends, long)
	}
}
