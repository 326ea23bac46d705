package run

import "hourglass/api"

// machine executes orders one by one. It keeps its own piles instead of calling
// itself, because fuel lasts for calls that are nested far more deeply than Go's
// stack may grow.
type machine struct {
	Result
	code
	input  []int64
	fuel   int
	at     int // the place of the next order
	values []int64
	calls  []call // those that have not ended
}

type call struct {
	back      int // the place after it
	variables map[api.ID]int64
}

// step reports whether the run goes on.
func (m *machine) step() bool {
	o := m.orders[m.at]
	m.at++
	switch o.do {
	case burn:
		return m.burn()
	case put:
		m.put(o.num)
	case load:
		m.put(m.variables()[o.id])
	case store:
		m.variables()[o.id] = m.take()
	case fetch:
		m.put(m.fetch())
	case negate:
		m.put(-m.take())
	case invert:
		m.put(1 - m.take())
	case combine:
		return m.combine(o.num)
	case tell:
		m.Trace = append(m.Trace, m.take())
	case drop:
		m.take()
	case jump:
		m.at = o.to
	case unless:
		if m.take() == 0 {
			m.at = o.to
		}
	case decide:
		m.decide(o)
	case enter:
		m.calls = append(m.calls, call{back: m.at, variables: map[api.ID]int64{}})
		m.at = m.starts[o.id]
	case leave:
		last := len(m.calls) - 1
		m.at = m.calls[last].back
		m.calls = m.calls[:last]
	case stop:
		m.Value = m.take()
		return m.end(Done)
	}
	return true
}

// end returns false, as step does then.
func (m *machine) end(how byte) bool {
	m.End = how
	return false
}

func (m *machine) put(value int64) {
	m.values = append(m.values, value)
}

func (m *machine) take() int64 {
	last := len(m.values) - 1
	value := m.values[last]
	m.values = m.values[:last]
	return value
}

// variables returns those of the innermost call.
func (m *machine) variables() map[api.ID]int64 {
	return m.calls[len(m.calls)-1].variables
}

func (m *machine) burn() bool {
	if m.Used == m.fuel {
		return m.end(Spent)
	}
	m.Used++
	return true
}

func (m *machine) fetch() int64 {
	m.Read++
	if m.Read > len(m.input) {
		return 0
	}
	return m.input[m.Read-1]
}

func (m *machine) combine(op int64) bool {
	y := m.take()
	x := m.take()
	value, ok := Eval(op, x, y)
	if !ok {
		return m.end(Trap)
	}
	m.put(value)
	return true
}

func (m *machine) decide(o order) {
	if m.values[len(m.values)-1] == o.num {
		m.at = o.to
		return
	}
	m.take()
}
