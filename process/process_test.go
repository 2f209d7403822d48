package process_test

import (
	"fmt"
	"slices"
	"strings"
	"testing"

	"rollbacknet/api"
	"rollbacknet/process"
)

// want tests a state, written without the names of fields.
func want(t *testing.T, what string, s api.State, written string) {
	t.Helper()
	if got := fmt.Sprint(s); got != written {
		t.Errorf("%s: %s, want %s", what, got, written)
	}
}

// wantSame tests a state.
func wantSame(t *testing.T, what string, got, state api.State) {
	t.Helper()
	if text(got) != text(state) {
		t.Errorf("%s: %s, want %s", what, text(got), text(state))
	}
}

// every has all handlers; each one leaves its own trace, and writes down what it can read.
const every = "var x = 3; array a[4]; on start { x = x + 1; output 100; send 0, 1000; } " +
	"on message { x = x * 2; a[0] = self; a[1] = procs; a[2] = from; a[3] = value; output 200; send 0, 2000; } " +
	"on tick { x = x * 3; a[0] = self; a[1] = procs; a[2] = from; a[3] = value; output 300; send 0, 3000; } " +
	"on input { x = x * 5; a[0] = self; a[1] = procs; a[2] = from; a[3] = value; output 400; send 0, 4000; }"

// P6.1: the cells behind the handler, no events, and its sends and outputs in order, with the Index 0.
func TestP6_1Start(t *testing.T) {
	for _, x := range []struct {
		text        string
		self, procs int
		want        string
	}{
		{"", 0, 1, "{[] [] [] []}"},
		{"var x = 4; array a[2]; var y = -7;", 0, 1, "{[4 0 0 -7] [] [] []}"},
		{"var x = 4; on start { }", 0, 1, "{[4] [] [] []}"},
		{"var x = 4; on start { x = x + 1; }", 0, 1, "{[5] [] [] []}"},
		{"var x = 4; on message { x = 1; } on tick { x = 2; output 2; } on input { x = 3; send 0, 1; }", 1, 2, "{[4] [] [] []}"},
		{every, 1, 2, "{[4 0 0 0 0] [] [{0 0 0 1000}] [{0 100}]}"},
		{every, 0, 2, "{[4 0 0 0 0] [] [] [{0 100}]}"},
		{"on start { send 0, 5; send 2, 6; send 0, 7; }", 1, 3, "{[] [] [{0 0 0 5} {0 1 2 6} {0 2 0 7}] []}"},
		{"on start { output 5; output 5; output -1; }", 1, 3, "{[] [] [] [{0 5} {0 5} {0 -1}]}"},
		{"on start { output 1; send 2, 2; output 3; output 4; send 0, 5; output 6; send 2, 7; }", 1, 3, "{[] [] [{0 0 2 2} {0 1 0 5} {0 2 2 7}] [{0 1} {0 3} {0 4} {0 6}]}"},
		{"on start { send 1, 1; send 3, 2; send -1, 3; send 0, 4; send 1, 5; send 2, 6; }", 1, 3, "{[] [] [{0 0 0 4} {0 1 2 6}] []}"},
		{"array a[4]; on start { a[0] = self; a[1] = procs; a[2] = from; a[3] = value; }", 2, 5, "{[2 5 2 0] [] [] []}"},
		{"on start { output self; output procs; output from; output value; }", 4, 5, "{[] [] [] [{0 4} {0 5} {0 4} {0 0}]}"},
		{"on start { output self; output procs; output from; output value; }", -3, 9, "{[] [] [] [{0 -3} {0 9} {0 -3} {0 0}]}"},
		{"on start { send 0, 1; send 4, 2; send self, 3; }", -3, 5, "{[] [] [{0 0 0 1} {0 1 4 2}] []}"},
		{"on start { send 0, 1; output procs; }", 1, -5, "{[] [] [] [{0 -5}]}"},
		{"on start { send 0, 1; send 7, 2; output procs; }", least, greatest, "{[] [] [{0 0 0 1} {0 1 7 2}] [{0 9223372036854775807}]}"},
		{"on start { send 0, 1; output procs; output from; }", greatest, least, "{[] [] [] [{0 -9223372036854775808} {0 9223372036854775807}]}"},
	} {
		want(t, x.text, process.Start(code(t, x.text), x.self, x.procs), x.want)
	}
}

// P6.1 with P5.1 and P5.2: what a handler can do with its fuel, and the effects for which there is a place.
func TestP6_1Limits(t *testing.T) {
	c := code(t, "var x; on start { output 7; while 1 { x = x + 1; } output 8; }")
	want(t, "endless", process.Start(c, 0, 1), "{[199] [] [] [{0 7}]}")
	c = code(t, "var x; on start { while x < 5 { send 1, x; output x; x = x + 1; } }")
	want(t, "effects", process.Start(c, 0, 2), "{[5] [] [{0 0 1 0} {0 1 1 1} {0 2 1 2} {0 3 1 3}] [{0 0} {0 1} {0 2} {0 3}]}")
	c = code(t, "var x; on start { while x < 9 { send 1, x; x = x + 1; } }")
	want(t, "sends", process.Start(c, 0, 2), "{[9] [] [{0 0 1 0} {0 1 1 1} {0 2 1 2} {0 3 1 3} {0 4 1 4} {0 5 1 5} {0 6 1 6} {0 7 1 7}] []}")
}

// P6.1: any codes, and any numbers of processes.
func TestP6_1Any(t *testing.T) {
	m := newMaker(1)
	met := 0
	for range 2000 {
		c := m.code(t)
		self, procs := m.place()
		s := process.Start(c, self, procs)
		wantSame(t, fmt.Sprint("Start of ", c), s, byRules(c, self, procs, nil))
		if len(s.Sent) > 1 && len(s.Outputs) > 1 {
			met++
		}
	}
	if met < 100 {
		t.Errorf("only %d codes send and output", met)
	}
}

// P6.2: each kind has its handler, its sender and its value; index and order begin anew with each event.
func TestP6_2Next(t *testing.T) {
	s := api.State{Cells: []int{7, 0, 0, 0, 0}}
	for _, x := range []struct {
		e    api.Event
		want string
	}{
		{api.Event{Kind: api.Receive, From: 2, Value: 40}, "{[14 1 3 2 40] [{1 0 2 {0 0} 0 40}] [{1 0 0 2000}] [{1 200}]}"},
		{api.Event{Kind: api.Tick, From: 2, Value: 40}, "{[21 1 3 1 40] [{2 0 2 {0 0} 0 40}] [{1 0 0 3000}] [{1 300}]}"},
		{api.Event{Kind: api.Input, From: 2, Value: 40}, "{[35 1 3 1 40] [{3 0 2 {0 0} 0 40}] [{1 0 0 4000}] [{1 400}]}"},
		{api.Event{Kind: api.Receive, Value: 0}, "{[14 1 3 0 0] [{1 0 0 {0 0} 0 0}] [{1 0 0 2000}] [{1 200}]}"},
		{api.Event{Kind: api.Receive, Inc: 3, From: 0, Sent: api.Label{Inc: 4, Index: 5}, Ord: 6, Value: -8}, "{[14 1 3 0 -8] [{1 3 0 {4 5} 6 -8}] [{1 0 0 2000}] [{1 200}]}"},
		{api.Event{Kind: api.Tick, Inc: 3, From: 0, Sent: api.Label{Inc: 4, Index: 5}, Ord: 6, Value: greatest}, "{[21 1 3 1 9223372036854775807] [{2 3 0 {4 5} 6 9223372036854775807}] [{1 0 0 3000}] [{1 300}]}"},
		{api.Event{Kind: api.Receive, From: least, Value: least}, "{[14 1 3 -9223372036854775808 -9223372036854775808] [{1 0 -9223372036854775808 {0 0} 0 -9223372036854775808}] [{1 0 0 2000}] [{1 200}]}"},
		{api.Event{Kind: api.Receive, From: 1, Value: 1}, "{[14 1 3 1 1] [{1 0 1 {0 0} 0 1}] [{1 0 0 2000}] [{1 200}]}"},
	} {
		want(t, fmt.Sprint(x.e), process.Next(code(t, every), 1, 3, s, x.e), x.want)
	}
}

// P6.2: one event after another, with several effects each, and events without any between them.
func TestP6_2Order(t *testing.T) {
	c := code(t, "var x; on start { send 1, 10; output 11; } on message { x = x + value; output x; } "+
		"on tick { send 1, value; output value; send 2, value + 1; output x; send 1, x; } on input { x = value; }")
	s := process.Start(c, 0, 3)
	for _, x := range []struct {
		e                    api.Event
		cells, sent, outputs string
	}{
		{api.Event{Kind: api.Tick, Value: 5}, "[0]", "[{1 0 1 5} {1 1 2 6} {1 2 1 0}]", "[{1 5} {1 0}]"},
		{api.Event{Kind: api.Receive, From: 2, Value: 2}, "[2]", "[]", "[{2 2}]"},
		{api.Event{Kind: api.Receive, From: 1, Value: 3}, "[5]", "[]", "[{3 5}]"},
		{api.Event{Kind: api.Input, Value: 9}, "[9]", "[]", "[]"},
		{api.Event{Kind: api.Tick, Value: 7}, "[9]", "[{5 0 1 7} {5 1 2 8} {5 2 1 9}]", "[{5 7} {5 9}]"},
	} {
		n := process.Next(c, 0, 3, s, x.e)
		sent, outputs := n.Sent[len(s.Sent):], n.Outputs[len(s.Outputs):]
		if fmt.Sprint(n.Cells) != x.cells || fmt.Sprint(sent) != x.sent || fmt.Sprint(outputs) != x.outputs {
			t.Errorf("event %d: %v %v %v", len(n.Events), n.Cells, sent, outputs)
		}
		if !slices.Equal(n.Events, append(slices.Clone(s.Events), x.e)) || !slices.Equal(n.Sent[:len(s.Sent)], s.Sent) || !slices.Equal(n.Outputs[:len(s.Outputs)], s.Outputs) {
			t.Errorf("event %d: %v does not continue %v", len(n.Events), n, s)
		}
		s = n
	}
}

// P6.2: events of another kind are added and execute nothing.
func TestP6_2Kinds(t *testing.T) {
	s := api.State{Cells: []int{7, 1, 2, 3, 4}, Events: []api.Event{{Kind: api.Tick}}, Sent: []api.Send{{Index: 1, To: 2}}, Outputs: []api.Output{{Index: 1, Value: 3}}}
	for _, kind := range append([]int{0, 4, 256 + api.Receive, 1<<32 + api.Tick, 1<<62 + api.Input, least + api.Receive}, odd...) {
		e := api.Event{Kind: kind, Inc: 1, From: 2, Value: 5}
		with := s
		with.Events = []api.Event{s.Events[0], e}
		wantSame(t, fmt.Sprint("kind ", kind), process.Next(code(t, every), 1, 3, s, e), with)
		wantSame(t, fmt.Sprint("kind ", kind), process.Next(code(t, every), 1, 3, api.State{}, e), api.State{Events: []api.Event{e}})
	}
}

// P6.2: a kind whose handler is missing executes nothing, and no other handler.
func TestP6_2Missing(t *testing.T) {
	for kind := api.Receive; kind <= api.Input; kind++ {
		c := code(t, every)
		switch kind {
		case api.Receive:
			c.Message = nil
		case api.Tick:
			c.Tick = nil
		case api.Input:
			c.Input = []api.Stmt{}
		}
		e := api.Event{Kind: kind, From: 2, Value: 5}
		wantSame(t, fmt.Sprint("kind ", kind), process.Next(c, 1, 3, api.State{Cells: []int{7}}, e), api.State{Cells: []int{7}, Events: []api.Event{e}})
	}
}

// P6.2: the cells are those of the state, not the initial ones, and the index counts its events, whatever its other lists say.
func TestP6_2State(t *testing.T) {
	c := code(t, "var x = 50; var y = 60; on message { x = x + 1; y = y + 1; send 0, x; output y; send 2, y; }")
	e := api.Event{Kind: api.Receive}
	for _, x := range []struct {
		s    api.State
		want string
	}{
		{api.State{}, "{[] [{1 0 0 {0 0} 0 0}] [{1 0 0 0} {1 1 2 0}] [{1 0}]}"},
		{api.State{Cells: []int{5}}, "{[6] [{1 0 0 {0 0} 0 0}] [{1 0 0 6} {1 1 2 0}] [{1 0}]}"},
		{api.State{Cells: []int{5, 6, 7}}, "{[6 7 7] [{1 0 0 {0 0} 0 0}] [{1 0 0 6} {1 1 2 7}] [{1 7}]}"},
		{api.State{Sent: []api.Send{{Index: 1, Ord: 4}, {Index: 9, Ord: 1}}, Outputs: []api.Output{{Index: 8}, {Index: 1}}}, "{[] [{1 0 0 {0 0} 0 0}] [{1 4 0 0} {9 1 0 0} {1 0 0 0} {1 1 2 0}] [{8 0} {1 0} {1 0}]}"},
		{api.State{Events: make([]api.Event, 2), Sent: []api.Send{{Index: 3}}}, "{[] [{0 0 0 {0 0} 0 0} {0 0 0 {0 0} 0 0} {1 0 0 {0 0} 0 0}] [{3 0 0 0} {3 0 0 0} {3 1 2 0}] [{3 0}]}"},
	} {
		want(t, fmt.Sprint(x.s), process.Next(c, 1, 3, x.s, e), x.want)
	}
	// More events than a lineage of the runtime may have.
	n := process.Next(c, 1, 3, api.State{Events: make([]api.Event, 1000)}, e)
	if len(n.Events) != 1001 || fmt.Sprint(n.Sent, n.Outputs) != "[{1001 0 0 0} {1001 1 2 0}] [{1001 0}]" {
		t.Errorf("behind 1000 events: %v %v", n.Sent, n.Outputs)
	}
}

// P6.2 with P5.1 and P5.2: each event has fuel and effects of its own, and keeps what it did until they end.
func TestP6_2Limits(t *testing.T) {
	c := code(t, "var x; on tick { output x; while 1 { x = x + 1; send 1, value; } }")
	s := process.Start(c, 0, 2)
	for k := 1; k <= 3; k++ {
		s = process.Next(c, 0, 2, s, api.Event{Kind: api.Tick, Value: k * 10})
		last := s.Sent[len(s.Sent)-7:]
		if s.Cells[0] != 133*k || len(s.Sent) != 7*k || len(s.Outputs) != k || s.Outputs[k-1] != (api.Output{Index: k, Value: 133 * (k - 1)}) {
			t.Errorf("behind %d events: %v", k, s)
		}
		for ord, m := range last {
			if m != (api.Send{Index: k, Ord: ord, To: 1, Value: k * 10}) {
				t.Errorf("event %d sends %v", k, last)
			}
		}
	}
}

// P6.2: any event behind any state, also one whose lists do not fit together.
func TestP6_2Any(t *testing.T) {
	m := newMaker(2)
	met := map[string]int{}
	for range 5000 {
		c, s, e := m.code(t), m.state(), m.event()
		self, procs := m.place()
		n := process.Next(c, self, procs, s, e)
		wantSame(t, fmt.Sprint("Next of ", text(s), " and ", e, " with ", c), n, nextByRules(c, self, procs, s, e))
		for what, holds := range map[string]bool{
			"sends":    len(n.Sent) > len(s.Sent)+1,
			"outputs":  len(n.Outputs) > len(s.Outputs)+1,
			"both":     len(n.Sent) > len(s.Sent) && len(n.Outputs) > len(s.Outputs),
			"all":      len(n.Sent)+len(n.Outputs) == len(s.Sent)+len(s.Outputs)+api.MaxEffects,
			"cells":    !slices.Equal(n.Cells, s.Cells),
			"no kind":  e.Kind < api.Receive || e.Kind > api.Input,
			"no cells": len(s.Cells) == 0,
		} {
			if holds {
				met[what]++
			}
		}
	}
	for _, what := range []string{"sends", "outputs", "both", "all", "cells", "no kind", "no cells"} {
		if met[what] < 100 {
			t.Errorf("only %d states of the sort %q", met[what], what)
		}
	}
}

// P6.3: the example of the chapter, and a lineage step by step.
func TestP6_3Replay(t *testing.T) {
	c := code(t, "var x; on message { x = x + value; output x; }")
	l := []api.Event{{Kind: api.Receive, From: 1, Value: 2}, {Kind: api.Receive, From: 1, Ord: 1, Value: 3}}
	want(t, "the example", process.Replay(c, 0, 2, l), "{[5] [{1 0 1 {0 0} 0 2} {1 0 1 {0 0} 1 3}] [] [{1 2} {2 5}]}")
	want(t, "nothing", process.Replay(c, 0, 2, nil), "{[0] [] [] []}")
	want(t, "no events", process.Replay(code(t, every), 1, 2, []api.Event{}), "{[4 0 0 0 0] [] [{0 0 0 1000}] [{0 100}]}")
	want(t, "no code", process.Replay(api.Code{}, 0, 2, l[:1]), "{[] [{1 0 1 {0 0} 0 2}] [] []}")
	l = []api.Event{{Kind: api.Input, Value: 4}, {Kind: 7}, {Kind: api.Receive, From: 2, Value: 5}, {Kind: api.Tick, Value: 6}}
	want(t, "every handler", process.Replay(code(t, every), 1, 3, l),
		"{[120 1 3 1 6] [{3 0 0 {0 0} 0 4} {7 0 0 {0 0} 0 0} {1 0 2 {0 0} 0 5} {2 0 0 {0 0} 0 6}] "+
			"[{0 0 0 1000} {1 0 0 4000} {3 0 0 2000} {4 0 0 3000}] [{0 100} {1 400} {3 200} {4 300}]}")
}

// P6.3: Replay is Start and then Next, again and again.
func TestP6_3Any(t *testing.T) {
	m := newMaker(3)
	met := 0
	for range 600 {
		c, l := m.code(t), m.events(m.Intn(20))
		self, procs := m.place()
		s := process.Start(c, self, procs)
		for i, e := range l {
			wantSame(t, fmt.Sprint("Replay of ", l[:i], " with ", c), process.Replay(c, self, procs, l[:i]), s)
			s = process.Next(c, self, procs, s, e)
		}
		wantSame(t, fmt.Sprint("Replay of ", l, " with ", c), process.Replay(c, self, procs, l), s)
		wantSame(t, fmt.Sprint("Replay of ", l, " with ", c), s, byRules(c, self, procs, l))
		if len(s.Sent) > 10 && len(s.Outputs) > 10 {
			met++
		}
	}
	if met < 20 {
		t.Errorf("only %d lineages send and output", met)
	}
}

// P6.3 with R10: a long lineage is replayed without copying its lists for each event.
func TestP6_3Long(t *testing.T) {
	const n = 1 << 17
	c := code(t, "var x; on tick { x = x + value; send 1, x; send 2, x; output x; output -x; }")
	l := slices.Repeat([]api.Event{{Kind: api.Tick, Value: 1}}, n)
	s := process.Replay(c, 0, 3, l)
	if len(s.Events) != n || len(s.Sent) != 2*n || len(s.Outputs) != 2*n || s.Cells[0] != n {
		t.Fatalf("%d events, %d sends, %d outputs, cells %v", len(s.Events), len(s.Sent), len(s.Outputs), s.Cells)
	}
	for i, m := range s.Sent {
		if m != (api.Send{Index: 1 + i/2, Ord: i % 2, To: 1 + i%2, Value: 1 + i/2}) {
			t.Fatalf("send %d is %v", i, m)
		}
	}
	if a, ok := process.At(c, 0, 3, s, n); !ok || !process.Same(a, s) {
		t.Error("At of the last index is another state")
	}
	if index := process.Received(s, 1, api.Label{}, 0); index != 0 {
		t.Errorf("a tick received something: %d", index)
	}
}

// P6.3: At has the indexes from 0 to the number of events, and no others.
func TestP6_3At(t *testing.T) {
	c := code(t, every)
	l := []api.Event{{Kind: api.Tick, Value: 6}, {Kind: 7}, {Kind: api.Receive, From: 2, Value: 5}}
	s := process.Replay(c, 1, 3, l)
	for k, written := range []string{
		"{[4 0 0 0 0] [] [{0 0 0 1000}] [{0 100}]}",
		"{[12 1 3 1 6] [{2 0 0 {0 0} 0 6}] [{0 0 0 1000} {1 0 0 3000}] [{0 100} {1 300}]}",
		"{[12 1 3 1 6] [{2 0 0 {0 0} 0 6} {7 0 0 {0 0} 0 0}] [{0 0 0 1000} {1 0 0 3000}] [{0 100} {1 300}]}",
		"{[24 1 3 2 5] [{2 0 0 {0 0} 0 6} {7 0 0 {0 0} 0 0} {1 0 2 {0 0} 0 5}] [{0 0 0 1000} {1 0 0 3000} {3 0 0 2000}] [{0 100} {1 300} {3 200}]}",
	} {
		a, ok := process.At(c, 1, 3, s, k)
		if !ok {
			t.Errorf("no state %d", k)
		}
		want(t, fmt.Sprint("state ", k), a, written)
	}
	for _, k := range append([]int{4}, odd...) {
		a, ok := process.At(c, 1, 3, s, k)
		if ok || a.Cells != nil || a.Events != nil || a.Sent != nil || a.Outputs != nil {
			t.Errorf("there is a state %d: %v, %v", k, a, ok)
		}
	}
	// Of the state, only the Events count.
	for _, wrong := range []api.State{{Events: l}, {Cells: []int{1}, Events: l, Sent: []api.Send{{Index: 1}}, Outputs: []api.Output{{Index: 1}}}} {
		for k := range 4 {
			if a, ok := process.At(c, 1, 3, wrong, k); !ok || text(a) != text(process.Replay(c, 1, 3, l[:k])) {
				t.Errorf("At(%d) of %v = %v, %v", k, wrong, a, ok)
			}
		}
	}
	if a, ok := process.At(c, 1, 3, api.State{}, 0); !ok || text(a) != text(process.Start(c, 1, 3)) {
		t.Errorf("At of no events = %v, %v", a, ok)
	}
	if a, ok := process.At(c, 1, 3, api.State{Cells: []int{1, 2}, Sent: []api.Send{{Index: 1}}, Outputs: []api.Output{{Index: 1}}}, 1); ok || text(a) != text(api.State{}) {
		t.Errorf("At behind no events = %v, %v", a, ok)
	}
}

// P6.4: each index up to the number of events has a label.
func TestP6_4Label(t *testing.T) {
	l := []api.Event{{Inc: 2}, {Inc: 0, Sent: api.Label{Inc: 5, Index: 6}}, {Inc: -7, Kind: api.Tick}, {Inc: greatest, Kind: api.Receive}, {Inc: 3, Kind: 9}}
	s := api.State{Cells: []int{1}, Events: l, Sent: make([]api.Send, 9), Outputs: make([]api.Output, 9)}
	for index, label := range []api.Label{{}, {Inc: 2, Index: 1}, {Inc: 0, Index: 2}, {Inc: -7, Index: 3}, {Inc: greatest, Index: 4}, {Inc: 3, Index: 5}} {
		if got, ok := process.Label(s, index); got != label || !ok {
			t.Errorf("Label(%d) = %v, %v, want %v", index, got, ok, label)
		}
	}
	for _, index := range append([]int{7, 8}, odd...) {
		if index == 5 {
			continue
		}
		if got, ok := process.Label(s, index); got != (api.Label{}) || ok {
			t.Errorf("Label(%d) = %v, %v", index, got, ok)
		}
	}
	if got, ok := process.Label(api.State{}, 0); got != (api.Label{}) || !ok {
		t.Errorf("Label of the start = %v, %v", got, ok)
	}
	if got, ok := process.Label(api.State{}, 1); got != (api.Label{}) || ok {
		t.Errorf("Label behind the start = %v, %v", got, ok)
	}
}

// P6.4: only a receiving counts, with each part of the name of the message; the first one of several.
func TestP6_4Received(t *testing.T) {
	e := api.Event{Kind: api.Receive, Inc: 1, From: 2, Sent: api.Label{Inc: 3, Index: 4}, Ord: 5, Value: 6}
	tick, input, none, from, inc, index, ord := e, e, e, e, e, e, e
	tick.Kind, input.Kind, none.Kind = api.Tick, api.Input, 0
	from.From, inc.Sent.Inc, index.Sent.Index, ord.Ord = 1, 2, 5, 4
	others := []api.Event{tick, input, none, from, inc, index, ord}
	received := func(l []api.Event) int { return process.Received(api.State{Events: l}, 2, e.Sent, 5) }
	if got := received(others); got != 0 {
		t.Errorf("received by the event %d of %v", got, others)
	}
	for i := range len(others) + 1 {
		l := slices.Insert(slices.Clone(others), i, e)
		if got := received(l); got != i+1 {
			t.Errorf("received by the event %d of %v, want %d", got, l, i+1)
		}
		// Inc and Value do not name a message.
		l[i].Inc, l[i].Value = -9, 99
		if got := received(append(l, e)); got != i+1 {
			t.Errorf("received by the event %d of %v, want %d", got, l, i+1)
		}
	}
	if got := received(nil); got != 0 {
		t.Errorf("received by the event %d of none", got)
	}
	zero := api.State{Events: []api.Event{{}, {Kind: api.Tick}, {Kind: api.Receive}, {Kind: api.Receive}}, Sent: make([]api.Send, 5)}
	if got := process.Received(zero, 0, api.Label{}, 0); got != 3 {
		t.Errorf("a message of the start was received by %d, want 3", got)
	}
	for _, v := range odd {
		l := []api.Event{{Kind: api.Receive, From: v}, {Kind: api.Receive, Sent: api.Label{Inc: v}}, {Kind: api.Receive, Sent: api.Label{Index: v}}, {Kind: api.Receive, Ord: v}}
		s := api.State{Events: l}
		got := []int{process.Received(s, v, api.Label{}, 0), process.Received(s, 0, api.Label{Inc: v}, 0), process.Received(s, 0, api.Label{Index: v}, 0), process.Received(s, 0, api.Label{}, v)}
		if !slices.Equal(got, []int{1, 2, 3, 4}) || process.Received(s, 0, api.Label{}, 0) != 0 {
			t.Errorf("Received with %d: %v", v, got)
		}
	}
}

// P6.4: the sends of an index, in order, wherever they stand in Sent.
func TestP6_4Sends(t *testing.T) {
	l := []api.Send{
		send(0, 0, 1, 5), send(2, 1, 1, 6), send(0, 1, 2, 7), send(2, 0, 1, 8),
		send(least, 0, 1, 9), send(greatest, 3, -1, 10), send(0, 0, 1, 5), send(1<<32, 0, 0, 0),
	}
	s := api.State{Sent: l, Outputs: []api.Output{{Index: 1}, {Index: 2}}}
	for index, written := range map[int]string{
		0: "[{0 0 1 5} {0 1 2 7} {0 0 1 5}]", 1: "[]", 2: "[{2 1 1 6} {2 0 1 8}]", 3: "[]", -1: "[]",
		least: "[{-9223372036854775808 0 1 9}]", greatest: "[{9223372036854775807 3 -1 10}]", least + 1: "[]", 1 << 32: "[{4294967296 0 0 0}]",
	} {
		if got := fmt.Sprint(process.Sends(s, index)); got != written {
			t.Errorf("Sends(%d) = %s, want %s", index, got, written)
		}
	}
	for _, index := range odd {
		if got := process.Sends(api.State{}, index); len(got) != 0 {
			t.Errorf("Sends(%d) of nothing = %v", index, got)
		}
	}
	m := newMaker(4)
	for range 300 {
		c, events := m.code(t), m.events(m.Intn(8))
		self, procs := m.place()
		r := process.Replay(c, self, procs, events)
		var all []api.Send
		for index := range len(events) + 1 {
			sends := process.Sends(r, index)
			for ord, s := range sends {
				if s.Index != index || s.Ord != ord {
					t.Errorf("Sends(%d) of %v = %v", index, r, sends)
				}
			}
			all = append(all, sends...)
		}
		if !slices.Equal(all, r.Sent) {
			t.Errorf("Sends of all indexes = %v, want %v", all, r.Sent)
		}
	}
}

// P6.4: a difference in any field of any element, and in the length of any list, is seen.
func TestP6_4Same(t *testing.T) {
	state := func() api.State {
		e := api.Event{Kind: 1, Inc: 2, From: 3, Sent: api.Label{Inc: 4, Index: 5}, Ord: 6, Value: 7}
		return api.State{
			Cells:   []int{1, 2, 3},
			Events:  []api.Event{e, {}, e},
			Sent:    []api.Send{send(1, 2, 3, 4), {}, send(1, 2, 3, 4)},
			Outputs: []api.Output{{Index: 1, Value: 2}, {}, {Index: 1, Value: 2}},
		}
	}
	changes := map[string]func(s *api.State, i int){
		"cell":        func(s *api.State, i int) { s.Cells[i]++ },
		"kind":        func(s *api.State, i int) { s.Events[i].Kind++ },
		"inc":         func(s *api.State, i int) { s.Events[i].Inc++ },
		"from":        func(s *api.State, i int) { s.Events[i].From++ },
		"sent inc":    func(s *api.State, i int) { s.Events[i].Sent.Inc++ },
		"sent index":  func(s *api.State, i int) { s.Events[i].Sent.Index += 1 << 32 },
		"ord":         func(s *api.State, i int) { s.Events[i].Ord++ },
		"value":       func(s *api.State, i int) { s.Events[i].Value++ },
		"index":       func(s *api.State, i int) { s.Sent[i].Index++ },
		"number":      func(s *api.State, i int) { s.Sent[i].Ord-- },
		"to":          func(s *api.State, i int) { s.Sent[i].To++ },
		"message":     func(s *api.State, i int) { s.Sent[i].Value++ },
		"shown index": func(s *api.State, i int) { s.Outputs[i].Index++ },
		"shown":       func(s *api.State, i int) { s.Outputs[i].Value += least },
		"cells":       func(s *api.State, i int) { s.Cells = s.Cells[:i] },
		"events":      func(s *api.State, i int) { s.Events = s.Events[:i] },
		"sends":       func(s *api.State, i int) { s.Sent = s.Sent[:i] },
		"outputs":     func(s *api.State, i int) { s.Outputs = s.Outputs[:i] },
		"more cells":  func(s *api.State, i int) { s.Cells = append(s.Cells, s.Cells[:i+1]...) },
		"more events": func(s *api.State, i int) { s.Events = append(s.Events, s.Events[:i+1]...) },
		"more sends":  func(s *api.State, i int) { s.Sent = append(s.Sent, s.Sent[:i+1]...) },
		"more shown":  func(s *api.State, i int) { s.Outputs = append(s.Outputs, s.Outputs[:i+1]...) },
	}
	a := state()
	if !process.Same(a, a) || !process.Same(a, state()) || !process.Same(state(), roomy(a)) {
		t.Error("equal states are not the same")
	}
	for what, change := range changes {
		for i := range 3 {
			b := state()
			change(&b, i)
			if process.Same(a, b) || process.Same(b, a) || !process.Same(b, b) {
				t.Errorf("a change of %s (%d) is not seen", what, i)
			}
		}
	}
	for i := range 3 {
		b := state()
		b.Cells[i], b.Cells[(i+1)%3] = b.Cells[(i+1)%3], b.Cells[i]
		if process.Same(a, b) {
			t.Errorf("the order of the cells does not count: %v", b.Cells)
		}
	}
}

// P6.4 with R3: nil and empty lists are the same, and differ from others.
func TestP6_4SameEmpty(t *testing.T) {
	empty := api.State{Cells: []int{}, Events: []api.Event{}, Sent: []api.Send{}, Outputs: []api.Output{}}
	if !process.Same(empty, api.State{}) || !process.Same(api.State{}, empty) || !process.Same(api.State{}, api.State{}) {
		t.Error("an empty state is not the zero state")
	}
	for _, s := range []api.State{{Cells: []int{0}}, {Events: []api.Event{{}}}, {Sent: []api.Send{{}}}, {Outputs: []api.Output{{}}}} {
		if process.Same(s, empty) || process.Same(empty, s) || process.Same(s, api.State{}) || process.Same(api.State{}, s) {
			t.Errorf("%v is the same as nothing", s)
		}
	}
}

// P6.5: At of a replayed lineage is Replay of its beginning, which has beginnings of all lists.
func TestP6_5At(t *testing.T) {
	m := newMaker(5)
	for range 500 {
		c, l := m.code(t), m.events(m.Intn(12))
		self, procs := m.place()
		s := process.Replay(c, self, procs, l)
		for k := range len(l) + 1 {
			a, ok := process.At(c, self, procs, s, k)
			r := process.Replay(c, self, procs, l[:k])
			if !ok || !process.Same(a, r) || text(a) != text(r) {
				t.Errorf("At(%d) of %v = %v, %v, want %v", k, s, a, ok, r)
			}
			if len(a.Sent) > len(s.Sent) || !slices.Equal(a.Sent, s.Sent[:len(a.Sent)]) {
				t.Errorf("%v does not begin with %v", s.Sent, a.Sent)
			}
			if len(a.Outputs) > len(s.Outputs) || !slices.Equal(a.Outputs, s.Outputs[:len(a.Outputs)]) {
				t.Errorf("%v does not begin with %v", s.Outputs, a.Outputs)
			}
		}
	}
}

// P6.5: Inc, Sent and Ord of events change nothing but Events.
func TestP6_5Fields(t *testing.T) {
	m := newMaker(6)
	for range 500 {
		c, l := m.code(t), m.events(1+m.Intn(8))
		self, procs := m.place()
		a := process.Replay(c, self, procs, l)
		l = m.others(l)
		b := process.Replay(c, self, procs, l)
		if process.Same(a, b) || !slices.Equal(b.Events, l) {
			t.Errorf("the events %v are replayed as %v", l, b.Events)
		}
		a.Events = b.Events
		wantSame(t, fmt.Sprint("other fields ", l), b, a)
	}
}

// R2: the arguments stay as they are, with what lies behind them; the results are memory of their own, and nothing is kept.
func TestP6_3Pure(t *testing.T) {
	m := newMaker(7)
	for range 500 {
		c, e := m.code(t), m.event()
		self, procs := m.place()
		c.Init = roomy(api.State{Cells: c.Init}).Cells
		s := roomy(process.Replay(c, self, procs, m.events(m.Intn(6))))
		k := m.Intn(len(s.Events) + 1)
		before, init := whole(s), fmt.Sprint(c.Init[:cap(c.Init)])
		calls := map[string]func() api.State{
			"Start":  func() api.State { return process.Start(c, self, procs) },
			"Next":   func() api.State { return process.Next(c, self, procs, s, e) },
			"Replay": func() api.State { return process.Replay(c, self, procs, s.Events) },
			"At":     func() api.State { a, _ := process.At(c, self, procs, s, k); return a },
		}
		for name, call := range calls {
			first, second := call(), call()
			written := text(first)
			spoil(first)
			third := call()
			if text(second) != written || text(third) != written {
				t.Errorf("%s shares memory: %s, %s, want %s", name, text(second), text(third), written)
			}
			if whole(s) != before || fmt.Sprint(c.Init[:cap(c.Init)]) != init {
				t.Fatalf("%s changes its arguments: %s, want %s", name, whole(s), before)
			}
		}
	}
}

// R2: two events behind the same state do not disturb each other, whatever room its lists have.
func TestP6_2Branches(t *testing.T) {
	c := code(t, every)
	s := process.Start(c, 1, 3)
	for range 40 {
		left := process.Next(c, 1, 3, s, api.Event{Kind: api.Tick, Value: 1})
		written := text(left)
		right := process.Next(c, 1, 3, s, api.Event{Kind: api.Input, Value: 2})
		if text(left) != written {
			t.Fatalf("%s became %s", written, text(left))
		}
		s = right
	}
}

// R2: questions change nothing, and Sends returns memory of its own.
func TestP6_4Pure(t *testing.T) {
	m := newMaker(8)
	for range 500 {
		s := roomy(m.state())
		before := whole(s)
		e := m.event()
		process.Received(s, e.From, e.Sent, e.Ord)
		process.Label(s, m.Intn(6))
		process.Same(s, roomy(s))
		first := process.Sends(s, 1)
		written := fmt.Sprint(first)
		spoilSends(first)
		if whole(s) != before || fmt.Sprint(process.Sends(s, 1)) != written {
			t.Fatalf("%s became %s", before, whole(s))
		}
	}
}

// R1: codes that no text has, and states whose lists say nothing, lead to a result.
func TestP6_2Total(t *testing.T) {
	body := []api.Stmt{{Kind: api.While, Value: api.Expr{Op: api.Const, Value: 1}}, {Kind: 77}}
	body[0].Body = body
	c := api.Code{Init: []int{1}, Start: body, Message: body, Tick: body, Input: body}
	for _, self := range odd {
		for _, kind := range []int{api.Receive, api.Tick, api.Input, self} {
			s := process.Next(c, self, -self, process.Start(c, self, -self), api.Event{Kind: kind, From: self, Value: self})
			if !strings.HasPrefix(fmt.Sprint(s), "{[1] [{") || len(s.Events) != 1 {
				t.Errorf("self %d, kind %d: %v", self, kind, s)
			}
		}
	}
}
