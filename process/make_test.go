package process_test

import (
	"fmt"
	"math"
	"math/rand"
	"slices"
	"testing"

	"rollbacknet/api"
	"rollbacknet/interp"
	"rollbacknet/resolve"
	"rollbacknet/syntax"
)

const (
	least    = math.MinInt64
	greatest = math.MaxInt64
)

// odd are numbers with which a function can go wrong.
var odd = []int{least, least + 1, -1 << 32, -3, -2, -1, 5, 6, 64, 65, 256, 1 << 32, 1<<32 + 1, 1 << 62, greatest - 1, greatest}

// code returns the code of a text.
func code(t *testing.T, text string) api.Code {
	t.Helper()
	p, at, e := syntax.Parse(text)
	c, wrong := resolve.Resolve(p)
	if e != api.OK || wrong != api.OK {
		t.Fatalf("%q: %d at %d, %d", text, e, at, wrong)
	}
	return c
}

func send(index, ord, to, value int) api.Send {
	return api.Send{Index: index, Ord: ord, To: to, Value: value}
}

// run is the executing of a handler: that of an event, or, with the kind 0, of the start.
type run struct{ index, kind, from, value int }

// runs lists the handlers of a lineage that are executed.
func runs(self int, l []api.Event) []run {
	all := []run{{0, 0, self, 0}}
	for i, e := range l {
		from := map[int]int{api.Receive: e.From, api.Tick: self, api.Input: self}
		if sender, executed := from[e.Kind]; executed {
			all = append(all, run{i + 1, e.Kind, sender, e.Value})
		}
	}
	return all
}

// byRules is Replay by the words of P6.1 to P6.3: the handlers of the whole lineage are listed first and executed on one memory, then the effects of all of them are sorted into sends and outputs, and the sends of each index are counted.
func byRules(c api.Code, self, procs int, l []api.Event) api.State {
	return continued(c, self, procs, api.State{Cells: c.Init}, runs(self, l), l)
}

// nextByRules is Next by the words of P6.2.
func nextByRules(c api.Code, self, procs int, s api.State, e api.Event) api.State {
	all := runs(self, append(append([]api.Event{}, s.Events...), e))
	last := all[len(all)-1:]
	if last[0].index != len(s.Events)+1 {
		last = nil
	}
	return continued(c, self, procs, s, last, []api.Event{e})
}

// continued adds events to a state, and what the runs make of its cells.
func continued(c api.Code, self, procs int, s api.State, all []run, l []api.Event) api.State {
	type did struct {
		index  int
		effect api.Effect
	}
	var list []did
	bodies := [][]api.Stmt{c.Start, c.Message, c.Tick, c.Input}
	n := api.State{Cells: append([]int{}, s.Cells...), Events: append(append([]api.Event{}, s.Events...), l...)}
	for _, r := range all {
		cells, effects, _ := interp.Run(bodies[r.kind], n.Cells, api.Env{Self: self, Procs: procs, From: r.from, Value: r.value})
		copy(n.Cells, cells)
		for _, e := range effects {
			list = append(list, did{r.index, e})
		}
	}
	n.Sent, n.Outputs = append(n.Sent, s.Sent...), append(n.Outputs, s.Outputs...)
	sends := map[int]int{}
	for _, d := range list {
		if d.effect.Kind == 2 {
			n.Outputs = append(n.Outputs, api.Output{Index: d.index, Value: d.effect.Value})
			continue
		}
		n.Sent = append(n.Sent, api.Send{Index: d.index, Ord: sends[d.index], To: d.effect.To, Value: d.effect.Value})
		sends[d.index]++
	}
	return n
}

// text writes a state; nil and empty lists are the same.
func text(s api.State) string { return fmt.Sprintf("%+v", s) }

// whole writes a state with what lies behind its lists.
func whole(s api.State) string {
	behind := api.State{Cells: s.Cells[:cap(s.Cells)], Events: s.Events[:cap(s.Events)], Sent: s.Sent[:cap(s.Sent)], Outputs: s.Outputs[:cap(s.Outputs)]}
	return text(s) + text(behind)
}

// roomy copies a state, with spare elements behind each list.
func roomy(s api.State) api.State {
	s.Cells = append(append(make([]int, 0, len(s.Cells)+9), s.Cells...), 88)[:len(s.Cells)]
	s.Events = append(append(make([]api.Event, 0, len(s.Events)+9), s.Events...), api.Event{Kind: 88})[:len(s.Events)]
	s.Sent = append(append(make([]api.Send, 0, len(s.Sent)+9), s.Sent...), api.Send{Index: 88})[:len(s.Sent)]
	s.Outputs = append(append(make([]api.Output, 0, len(s.Outputs)+9), s.Outputs...), api.Output{Index: 88})[:len(s.Outputs)]
	return s
}

// spoil changes each element of a state.
func spoil(s api.State) {
	for i := range s.Cells {
		s.Cells[i] -= 1000
	}
	for i := range s.Events {
		s.Events[i] = api.Event{Kind: -1000}
	}
	spoilSends(s.Sent)
	for i := range s.Outputs {
		s.Outputs[i] = api.Output{Index: -1000}
	}
}

func spoilSends(l []api.Send) {
	for i := range l {
		l[i] = api.Send{Index: -1000}
	}
}

// maker makes codes, events and states at random.
type maker struct{ *rand.Rand }

func newMaker(seed int64) maker { return maker{rand.New(rand.NewSource(seed))} }

// value returns a small number, mostly.
func (m maker) value() int {
	if m.Intn(8) == 0 {
		return odd[m.Intn(len(odd))]
	}
	return m.Intn(9) - 2
}

// handler returns a handler as a text. Some handlers need more fuel, or have more effects, than there may be.
func (m maker) handler(name string) string {
	all := []string{
		"x = x + value;", "y = y * 3 + x;", "x = from;", "a[y] = value;", "a[value] = a[value] + 1;", "y = y + 1;",
		"send from, x;", "send 0, value;", "send self + 1, y;", "send value, procs;", "send 1, a[1]; send 2, a[2];",
		"output x;", "output from;", "output value; output y;", "output self * 10 + procs;",
		"if x < y { send 2, x; } else { output y; }", "while a[0] < 6 { a[0] = a[0] + 1; send a[0], x; output a[0]; }",
		"while 1 { y = y + 1; send 1, y; }", "while y { y = y / 2; output y; }", "x = 0; while x < 150 { x = x + 1; }",
	}
	text := " on " + name + " { "
	for range m.Intn(8) {
		text += all[m.Intn(len(all))] + " "
	}
	return text + "}"
}

// code returns a code, most often with all handlers.
func (m maker) code(t *testing.T) api.Code {
	text := "var x = 2; array a[3]; var y = 5;"
	for _, name := range []string{"start", "message", "tick", "input"} {
		if m.Intn(6) > 0 {
			text += m.handler(name)
		}
	}
	c := code(t, text)
	if m.Intn(4) == 0 {
		c.Init = m.cells()
	}
	return c
}

func (m maker) cells() []int {
	l := make([]int, m.Intn(8))
	for i := range l {
		l[i] = m.value()
	}
	return l
}

// place returns the number of a process and the number of processes.
func (m maker) place() (int, int) {
	if m.Intn(6) == 0 {
		return m.value(), m.value()
	}
	procs := 1 + m.Intn(5)
	return m.Intn(procs), procs
}

func (m maker) event() api.Event {
	kind := 1 + m.Intn(3)
	if m.Intn(8) == 0 {
		kind = m.value()
	}
	return api.Event{Kind: kind, Inc: m.value(), From: m.value(), Sent: api.Label{Inc: m.value(), Index: m.value()}, Ord: m.value(), Value: m.value()}
}

func (m maker) events(n int) []api.Event {
	l := make([]api.Event, n)
	for i := range l {
		l[i] = m.event()
	}
	return l
}

// state returns any state: its lists need not fit together.
func (m maker) state() api.State {
	s := api.State{Cells: m.cells(), Events: m.events(m.Intn(5))}
	for range m.Intn(6) {
		s.Sent = append(s.Sent, api.Send{Index: m.Intn(7), Ord: m.Intn(3), To: m.value(), Value: m.value()})
		s.Outputs = append(s.Outputs, api.Output{Index: m.Intn(7), Value: m.value()})
	}
	return s
}

// other returns an event that differs from e in one of the fields that change nothing but Events.
func (m maker) other(e api.Event) api.Event {
	o := e
	for o == e {
		switch m.Intn(4) {
		case 0:
			o.Inc = m.value()
		case 1:
			o.Sent.Inc = m.value()
		case 2:
			o.Sent.Index = m.value()
		case 3:
			o.Ord = m.value()
		}
	}
	return o
}

// others changes such a field of each event.
func (m maker) others(l []api.Event) []api.Event {
	l = slices.Clone(l)
	for i, e := range l {
		l[i] = m.other(e)
	}
	return l
}
