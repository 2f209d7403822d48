package interp_test

import (
	"fmt"
	"slices"
	"testing"

	"rollbacknet/api"
	"rollbacknet/interp"
)

func run(body []api.Stmt, cells []int, v api.Env) outcome {
	behind, effects, used := interp.Run(body, cells, v)
	return outcome{behind, effects, used}
}

// wantRun tests a handler with the cells and the Env.
func wantRun(t *testing.T, body []api.Stmt, cells []int, v api.Env, want outcome) {
	t.Helper()
	if got := run(body, cells, v); got.String() != want.String() {
		t.Errorf("Run(%+v, %v, %+v) = %v, want %v", body, cells, v, got, want)
	}
}

// example is a handler as a text, and what it makes of cells that are 0; effects are written as fmt does.
type example struct {
	text    string
	cells   string
	effects string
	used    int
}

func (x example) test(t *testing.T) {
	t.Helper()
	o := run(tick(t, x.text), make([]int, 6), env)
	if fmt.Sprint(o.cells) != x.cells || fmt.Sprint(o.effects) != x.effects || o.used != x.used {
		t.Errorf("%s: %v, want %s, %s, %d", x.text, o, x.cells, x.effects, x.used)
	}
}

// P5.1: what statements cost, with the examples of the chapter; there is nothing to pay for the end of a body.
func TestP5_1Costs(t *testing.T) {
	for _, x := range []example{
		{"", "[0 0 0 0 0 0]", "[]", 0},
		{"x = 1;", "[1 0 0 0 0 0]", "[]", 1},
		{"a[1] = 2;", "[0 0 0 2 0 0]", "[]", 1},
		{"send 0, 3;", "[0 0 0 0 0 0]", "[{1 0 3}]", 1},
		{"output 4;", "[0 0 0 0 0 0]", "[{2 0 4}]", 1},
		{"a[7] = 2; send self, 3; send 9, 3;", "[0 0 0 0 0 0]", "[]", 3},
		{"x = 1 + 2 * (3 - y) / 1 + a[0]; y = x;", "[7 7 0 0 0 0]", "[]", 2},
		{"if 1 { }", "[0 0 0 0 0 0]", "[]", 1},
		{"if 0 { }", "[0 0 0 0 0 0]", "[]", 1},
		{"if 0 { } else { }", "[0 0 0 0 0 0]", "[]", 1},
		{"if 1 { x = 1; y = 1; } else { z = 1; }", "[1 1 0 0 0 0]", "[]", 3},
		{"if 0 { x = 1; y = 1; } else { z = 1; }", "[0 0 0 0 0 1]", "[]", 2},
		{"if 1 { if 1 { if 0 { } else { x = 1; } } }", "[1 0 0 0 0 0]", "[]", 4},
		{"while 0 { x = 1; }", "[0 0 0 0 0 0]", "[]", 1},
		{"while x < 1 { x = x + 1; }", "[1 0 0 0 0 0]", "[]", 3},
		{"while x < 3 { x = x + 1; }", "[3 0 0 0 0 0]", "[]", 7},
		{"while x < 3 { x = x + 1; y = x; }", "[3 3 0 0 0 0]", "[]", 10},
		{"while x < 2 { x = x + 1; y = 0; while y < 2 { y = y + 1; } }", "[2 2 0 0 0 0]", "[]", 17},
		{"while x < 2 { x = x + 1; } while x < 4 { x = x + 1; }", "[4 0 0 0 0 0]", "[]", 10},
		{"while 1 { x = x + 1; }", "[200 0 0 0 0 0]", "[]", 400},
		{"while 1 { }", "[0 0 0 0 0 0]", "[]", 400},
	} {
		x.test(t)
	}
}

// P5.1: as many statements of each kind as the fuel is enough for, and those beside this number. The last one that is executed works.
func TestP5_1Limit(t *testing.T) {
	kinds := map[string]api.Stmt{
		"none":   {},
		"assign": increase(0, 1),
		"store":  store(0, 1, number(0), apply(api.Add, scalar(0), number(1))),
		"nobody": when(number(1), nil, nil),
		"never":  loop(number(0), increase(0, 1)),
		"put":    put(number(0), number(5)),
		"out":    output(number(6)),
		"lost":   put(number(1), number(5)),
	}
	for name, s := range kinds {
		for _, n := range []int{1, 2, 398, 399, 400, 401, 402, 1000} {
			want := outcome{cells: []int{0}, used: min(n, 400)}
			switch name {
			case "assign", "store":
				want.cells[0] = min(n, 400)
			case "put":
				want.effects = slices.Repeat([]api.Effect{{Kind: api.Sending, Value: 5}}, min(n, 8))
			case "out":
				want.effects = slices.Repeat([]api.Effect{{Kind: api.Showing, Value: 6}}, min(n, 8))
			}
			if got := run(times(n, s), []int{0}, env); got.String() != want.String() {
				t.Errorf("%d times %s: %v, want %v", n, name, got, want)
			}
		}
	}
}

// P5.1: each kind of statement as the last one that can be paid for, and as the first one that cannot.
func TestP5_1Last(t *testing.T) {
	sent, shown := []api.Effect{{Kind: api.Sending, Value: 7}}, []api.Effect{{Kind: api.Showing, Value: 7}}
	for i, x := range []struct {
		s    api.Stmt
		want outcome
	}{
		{api.Stmt{}, outcome{[]int{399}, nil, 400}},
		{increase(0, 50), outcome{[]int{449}, nil, 400}},
		{store(0, 1, number(0), number(7)), outcome{[]int{7}, nil, 400}},
		{when(number(1), times(3, increase(0, 50)), nil), outcome{[]int{399}, nil, 400}},
		{when(number(0), nil, times(3, increase(0, 50))), outcome{[]int{399}, nil, 400}},
		{loop(number(1), increase(0, 50)), outcome{[]int{399}, nil, 400}},
		{loop(number(0), increase(0, 50)), outcome{[]int{399}, nil, 400}},
		{put(number(0), number(7)), outcome{[]int{399}, sent, 400}},
		{output(number(7)), outcome{[]int{399}, shown, 400}},
	} {
		for _, behind := range [][]api.Stmt{nil, {increase(0, 1000), output(number(1))}} {
			body := slices.Concat(times(399, increase(0, 1)), []api.Stmt{x.s}, behind)
			if got := run(body, []int{0}, env); got.String() != x.want.String() {
				t.Errorf("%d: %v, want %v", i, got, x.want)
			}
			body = slices.Concat(times(400, increase(0, 1)), []api.Stmt{x.s}, behind)
			if got := run(body, []int{0}, env); got.String() != "[400] [] 400" {
				t.Errorf("%d: %v behind the last unit", i, got)
			}
		}
	}
}

// P5.1: the statements around the one that cannot be paid for end too; cells and effects stay.
func TestP5_1Around(t *testing.T) {
	for _, x := range []example{
		{"while 1 { } x = 1;", "[0 0 0 0 0 0]", "[]", 400},
		{"x = 1; while 1 { x = x + 1; } x = 9;", "[200 0 0 0 0 0]", "[]", 400},
		{"output 5; while 1 { x = x + 1; } output 6;", "[199 0 0 0 0 0]", "[{2 0 5}]", 400},
		{"if 1 { while 1 { y = y + 1; } x = 1; } x = 2;", "[0 199 0 0 0 0]", "[]", 400},
		{"if 0 { } else { while 1 { y = y + 1; } x = 1; } x = 2;", "[0 199 0 0 0 0]", "[]", 400},
		{"while 1 { x = x + 1; while 1 { y = y + 1; } z = 1; }", "[1 199 0 0 0 0]", "[]", 400},
		{"while 1 { if 1 { while 1 { if 1 { y = y + 1; send 3, y; } } x = 1; } x = 1; } x = 1;", "[0 99 0 0 0 0]", "[{1 3 1} {1 3 2} {1 3 3} {1 3 4} {1 3 5} {1 3 6} {1 3 7} {1 3 8}]", 400},
		{"while x < 199 { x = x + 1; } y = 7; y = 8;", "[199 7 0 0 0 0]", "[]", 400},
		{"while x < 200 { x = x + 1; } y = 7;", "[200 0 0 0 0 0]", "[]", 400},
	} {
		x.test(t)
	}
}

// P5.1: levels of statements that the fuel is enough for, and those that it is not, up to R10's number of them.
func TestP5_1Levels(t *testing.T) {
	for _, x := range []struct{ levels, cell, used int }{
		{1, 5, 2}, {100, 5, 101}, {399, 5, 400}, {400, 0, 400}, {401, 0, 400}, {1 << 16, 0, 400},
	} {
		inner := [3][]api.Stmt{}
		for i := range inner {
			inner[i] = []api.Stmt{assign(0, number(5))}
		}
		for range x.levels {
			inner[0] = []api.Stmt{when(number(1), inner[0], nil)}
			inner[1] = []api.Stmt{when(number(0), nil, inner[1])}
			inner[2] = []api.Stmt{loop(apply(api.Not, scalar(0)), inner[2]...)}
		}
		for i, body := range inner[:2] {
			if got := run(body, []int{0}, env); got.cells[0] != x.cell || got.used != x.used {
				t.Errorf("%d levels (%d): %v", x.levels, i, got)
			}
		}
		// Each While behind which the cell is 5 costs one more.
		if got := run(inner[2], []int{0}, env); got.cells[0] != x.cell || got.used != min(2*x.levels+1, 400) {
			t.Errorf("%d levels of While: %v", x.levels, got)
		}
	}
}

// P5.1 with R1: a handler that contains itself, and great lists, end with the fuel.
func TestP5_1Endless(t *testing.T) {
	for i, s := range []api.Stmt{when(number(1), nil, nil), when(number(0), nil, nil), loop(number(1))} {
		body := []api.Stmt{increase(0, 1), s, output(number(1))}
		body[1].Body, body[1].Else = body, body
		if got := run(body, []int{0}, env); got.String() != "[200] [] 400" {
			t.Errorf("%d: %v", i, got)
		}
	}
	great := times(1<<16, increase(0, 1))
	for _, body := range [][]api.Stmt{great, {loop(number(1), great...)}, {when(number(0), nil, great)}} {
		want := outcome{cells: []int{399 + len(body)>>16}, used: 400}
		if got := run(body, []int{0}, env); got.String() != want.String() {
			t.Errorf("great lists: %v, want %v", got, want)
		}
	}
}

// P5.2: Assign sets the cell with the number Slot, if it exists; other fields do not count.
func TestP5_2Assign(t *testing.T) {
	for slot, want := range [][]int{{9, 6, 7}, {5, 9, 7}, {5, 6, 9}, {5, 6, 7}, {5, 6, 7}} {
		s := assign(slot, number(9))
		wantRun(t, []api.Stmt{s}, []int{5, 6, 7}, env, outcome{want, nil, 1})
		s.Name, s.Size, s.Place, s.Body, s.Else = "y", 2, number(1), []api.Stmt{increase(0, 1)}, []api.Stmt{output(number(1))}
		wantRun(t, []api.Stmt{s}, []int{5, 6, 7}, env, outcome{want, nil, 1})
	}
	for _, slot := range []int{-1, -2, -3, 3, least, least + 1, -1 << 32, 1 << 32, 1<<32 + 1, 1<<62 + 1, greatest} {
		wantRun(t, []api.Stmt{assign(slot, number(9))}, []int{5, 6, 7}, env, outcome{[]int{5, 6, 7}, nil, 1})
	}
	for _, v := range []int{least, -1, 0, 1, 1 << 32, greatest} {
		wantRun(t, []api.Stmt{assign(1, number(v))}, []int{5, 6}, env, outcome{[]int{5, v}, nil, 1})
	}
	wantRun(t, []api.Stmt{assign(0, number(9))}, nil, env, outcome{nil, nil, 1})
	// Run has all the cells that it is given, also more than a program can declare.
	many := make([]int, 1000)
	many[999] = 9
	wantRun(t, []api.Stmt{assign(999, number(9))}, make([]int, 1000), env, outcome{many, nil, 1})
	wantRun(t, []api.Stmt{store(900, 100, number(99), number(9))}, make([]int, 1000), env, outcome{many, nil, 1})
}

// P5.2: Store sets the cells of the array and no others.
func TestP5_2Store(t *testing.T) {
	for _, x := range []struct{ slot, size, i, cell int }{
		{1, 2, 0, 1}, {1, 2, 1, 2}, {1, 2, 2, -1}, {1, 2, -1, -1}, {1, 2, least, -1}, {1, 2, greatest, -1},
		{0, 1, 0, 0}, {0, 1, 1, -1}, {0, 4, 3, 3}, {0, 9, 3, 3}, {0, 9, 4, -1}, {3, 9, 0, 3}, {3, 9, 1, -1}, {4, 1, 0, -1},
		{1, 0, 0, -1}, {1, -1, 0, -1}, {1, -3, -2, -1}, {1, least, 0, -1}, {1, greatest, 2, 3}, {1, greatest, -1, -1},
		{-1, 4, 0, -1}, {-1, 4, 1, 0}, {-1, 4, 3, 2}, {-3, 6, 5, 2}, {-3, 5, 5, -1},
		{least, greatest, 0, -1}, {least, greatest, greatest - 1, -1}, {1 - greatest, greatest, greatest - 1, 0}, {2 - greatest, greatest, greatest - 1, 1},
		{greatest, greatest, 0, -1}, {greatest, greatest, 1, -1}, {greatest, greatest, greatest - 1, -1}, {1 << 62, greatest, 1 << 62, -1}, {1 << 32, 5, 1, -1}, {2, greatest, greatest - 1, -1},
	} {
		want := []int{5, 6, 7, 8}
		if x.cell >= 0 {
			want[x.cell] = -9
		}
		s := store(x.slot, x.size, number(x.i), number(-9))
		wantRun(t, []api.Stmt{s}, []int{5, 6, 7, 8}, env, outcome{want, nil, 1})
		wantRun(t, []api.Stmt{s}, nil, env, outcome{nil, nil, 1})
		s.Name, s.Body, s.Else = "y", []api.Stmt{increase(0, 1)}, []api.Stmt{output(number(1))}
		wantRun(t, []api.Stmt{s}, []int{5, 6, 7, 8}, env, outcome{want, nil, 1})
	}
}

// P5.2: each value other than 0 selects the Body.
func TestP5_2If(t *testing.T) {
	body, other := []api.Stmt{increase(0, 1), increase(0, 10)}, []api.Stmt{increase(0, 100)}
	for _, v := range []int{least, -2, -1, 1, 2, 1 << 32, greatest} {
		wantRun(t, []api.Stmt{when(number(v), body, other)}, []int{0}, env, outcome{[]int{11}, nil, 3})
		wantRun(t, []api.Stmt{when(number(v), body, nil)}, []int{0}, env, outcome{[]int{11}, nil, 3})
		wantRun(t, []api.Stmt{when(number(v), nil, other)}, []int{0}, env, outcome{[]int{0}, nil, 1})
		wantRun(t, []api.Stmt{loop(number(v), times(200, increase(0, 1))...)}, []int{0}, env, outcome{[]int{398}, nil, 400})
	}
	wantRun(t, []api.Stmt{when(number(0), body, other)}, []int{0}, env, outcome{[]int{100}, nil, 2})
	wantRun(t, []api.Stmt{when(number(0), body, nil)}, []int{0}, env, outcome{[]int{0}, nil, 1})
	s := when(number(0), body, other)
	s.Name, s.Slot, s.Size, s.Place = "x", 0, 1, number(1)
	wantRun(t, []api.Stmt{s}, []int{0}, env, outcome{[]int{100}, nil, 2})
	// The Value is taken once: the Body may change it.
	wantRun(t, []api.Stmt{when(scalar(0), []api.Stmt{assign(0, number(0))}, other)}, []int{1}, env, outcome{[]int{0}, nil, 2})
	wantRun(t, []api.Stmt{when(scalar(0), body, []api.Stmt{assign(0, number(1))})}, []int{0}, env, outcome{[]int{1}, nil, 2})
}

// P5.2: the Body of a While is executed as long as the Value is not 0, and Else never.
func TestP5_2While(t *testing.T) {
	for n := range 210 {
		body := []api.Stmt{loop(apply(api.Sub, scalar(0), number(n)), increase(0, 1)), increase(1, 1)}
		want := outcome{[]int{min(n, 200), 1}, nil, min(2*n+2, 400)}
		if n >= 200 {
			want.cells[1] = 0
		}
		wantRun(t, body, []int{0, 0}, env, want)
	}
	s := loop(apply(api.Less, scalar(0), number(4)), increase(0, 1), output(scalar(0)))
	s.Name, s.Slot, s.Size, s.Place, s.Else = "x", 0, 1, number(1), []api.Stmt{increase(0, 100)}
	shown := []api.Effect{{Kind: api.Showing, Value: 3}, {Kind: api.Showing, Value: 4}}
	wantRun(t, []api.Stmt{s}, []int{2}, env, outcome{[]int{4}, shown, 7})
	wantRun(t, []api.Stmt{s}, []int{4}, env, outcome{[]int{4}, nil, 1})
}

// P5.2: a message goes to each other process, and to nobody else.
func TestP5_2Put(t *testing.T) {
	numbers := []int{least, -1 << 32, -2, -1, 0, 1, 2, 3, 4, 5, 6, 1 << 32, 1<<32 + 1, greatest - 1, greatest}
	for _, self := range numbers {
		for _, procs := range numbers {
			for _, to := range numbers {
				want := outcome{used: 1}
				if to >= 0 && to < procs && to != self {
					want.effects = []api.Effect{{Kind: api.Sending, To: to, Value: 77}}
				}
				s := put(number(to), number(77))
				wantRun(t, []api.Stmt{s}, nil, api.Env{Self: self, Procs: procs, From: to, Value: 1}, want)
			}
		}
	}
	for _, v := range numbers {
		s := put(number(3), number(v))
		s.Name, s.Slot, s.Size, s.Body, s.Else = "x", 0, 1, []api.Stmt{increase(0, 1)}, []api.Stmt{increase(0, 1)}
		wantRun(t, []api.Stmt{s}, []int{5}, env, outcome{[]int{5}, []api.Effect{{Kind: api.Sending, To: 3, Value: v}}, 1})
	}
}

// P5.2: an output has the value and no receiver.
func TestP5_2Out(t *testing.T) {
	for _, v := range []int{least, -1, 0, 1, 2, greatest} {
		s := output(number(v))
		want := outcome{[]int{5}, []api.Effect{{Kind: api.Showing, Value: v}}, 1}
		wantRun(t, []api.Stmt{s}, []int{5}, env, want)
		wantRun(t, []api.Stmt{s}, []int{5}, api.Env{}, want)
		s.Name, s.Slot, s.Size, s.Place, s.Body, s.Else = "x", 0, 1, number(3), []api.Stmt{increase(0, 1)}, []api.Stmt{increase(0, 1)}
		wantRun(t, []api.Stmt{s}, []int{5}, env, want)
	}
}

// P5.2: behind api.MaxEffects effects of both kinds there are no others, but statements go on; a Put that sends nothing does not count.
func TestP5_2MaxEffects(t *testing.T) {
	for _, x := range []example{
		{"while x < 7 { output x; x = x + 1; } send 0, 70; send 2, 80; output 90; y = 1;", "[7 1 0 0 0 0]", "[{2 0 0} {2 0 1} {2 0 2} {2 0 3} {2 0 4} {2 0 5} {2 0 6} {1 0 70}]", 26},
		{"while x < 7 { send 3, x; x = x + 1; } output 70; output 80; send 0, 90; y = 1;", "[7 1 0 0 0 0]", "[{1 3 0} {1 3 1} {1 3 2} {1 3 3} {1 3 4} {1 3 5} {1 3 6} {2 0 70}]", 26},
		{"while x < 9 { send 1, x; send 4, x; send -1, x; x = x + 1; } output 70; send 0, 80;", "[9 0 0 0 0 0]", "[{2 0 70} {1 0 80}]", 48},
		{"while x < 5 { send x, 7; output x; x = x + 1; } send 0, 5;", "[5 0 0 0 0 0]", "[{1 0 7} {2 0 0} {2 0 1} {1 2 7} {2 0 2} {1 3 7} {2 0 3} {2 0 4}]", 22},
	} {
		x.test(t)
	}
	sent, shown := api.Effect{Kind: api.Sending, To: 3, Value: 1}, api.Effect{Kind: api.Showing, Value: 2}
	for puts := range 12 {
		for outs := range 12 {
			body := slices.Concat(times(puts, put(number(3), number(1))), times(outs, output(number(2))), []api.Stmt{increase(0, 1)})
			effects := slices.Concat(slices.Repeat([]api.Effect{sent}, puts), slices.Repeat([]api.Effect{shown}, outs))
			wantRun(t, body, []int{0}, env, outcome{[]int{1}, effects[:min(8, len(effects))], puts + outs + 1})
		}
	}
}

// P5.2: other kinds do nothing, whatever is in them, and cost 1.
func TestP5_2Others(t *testing.T) {
	inner := []api.Stmt{assign(0, number(9)), output(number(9))}
	for _, kind := range []int{0, -1, -6, api.Out + 1, api.Out + 2, 100, 256 + api.Assign, 1<<32 + api.Assign, 1<<32 + api.Out, least, least + api.Assign, greatest} {
		s := api.Stmt{Kind: kind, Name: "x", Size: 2, Place: number(0), Value: number(1), Body: inner, Else: inner}
		wantRun(t, []api.Stmt{s}, []int{5, 6}, env, outcome{[]int{5, 6}, nil, 1})
		s.Value = number(0)
		wantRun(t, []api.Stmt{s, output(scalar(0)), s}, []int{5, 6}, env, outcome{[]int{5, 6}, []api.Effect{{Kind: api.Showing, Value: 5}}, 3})
	}
}

// P5.2: expressions have the cells as they are at the time, and the Env, at each place of each statement.
func TestP5_2Present(t *testing.T) {
	for _, x := range []example{
		{"x = 1; y = x + 1; z = y + x; x = z;", "[3 2 0 0 0 3]", "[]", 4},
		{"x = 1; a[x] = x + 1; a[a[1]] = a[x]; x = a[2];", "[2 0 0 2 2 0]", "[]", 4},
		{"x = 2; send x, x + 5; x = 3; send x, x + 5; a[0] = x; send a[0], a[0];", "[3 0 3 0 0 0]", "[{1 2 7} {1 3 8} {1 3 3}]", 6},
		{"output x; x = x + 1; output x; x = x + 1; output x;", "[2 0 0 0 0 0]", "[{2 0 0} {2 0 1} {2 0 2}]", 5},
		{"x = 1; if x { y = 1; x = 0; } if x { y = 2; } else { z = x + 3; }", "[0 1 0 0 0 3]", "[]", 6},
		{"x = 3; while x { x = x - 1; a[x] = x + 7; }", "[0 0 7 8 9 0]", "[]", 11},
		{"x = self; y = procs; a[self] = from; z = value;", "[1 4 0 2 0 -4]", "[]", 4},
		{"send from, value; output self; send procs - 1, procs; if value + 4 { x = 1; } while from - x - 2 { x = x + 1; }", "[0 0 0 0 0 0]", "[{1 2 -4} {2 0 1} {1 3 4}]", 5},
		{"x = 9223372036854775807; x = x + 1; output x; y = x / 0; a[0] = x / -1;", "[-9223372036854775808 0 -9223372036854775808 0 0 0]", "[{2 0 -9223372036854775808}]", 5},
	} {
		x.test(t)
	}
	// A Store changes nothing ahead of its Value, nor does a Put.
	s := store(0, 2, scalar(0), apply(api.Add, scalar(0), scalar(1)))
	wantRun(t, []api.Stmt{s, s}, []int{1, 5}, env, outcome{[]int{1, 7}, nil, 2})
}

// P5.2: expressions that are as deep as R10 permits, at each place of each statement. The first wrong result ends the test.
func TestP5_2Great(t *testing.T) {
	deep := scalar(0)
	for range 1<<16 - 1 {
		deep = apply(api.Not, deep)
	}
	for _, x := range []struct {
		s    api.Stmt
		want string
	}{
		{assign(1, deep), "[5 0] [] 1"},
		{store(0, 2, deep, deep), "[0 5] [] 1"},
		{when(deep, []api.Stmt{increase(1, 1)}, []api.Stmt{increase(1, 2)}), "[5 7] [] 2"},
		{loop(deep, increase(0, 1)), "[5 5] [] 1"},
		{put(deep, apply(api.Add, deep, number(1))), "[5 5] [{1 0 1}] 1"},
		{output(deep), "[5 5] [{2 0 0}] 1"},
	} {
		if got := run([]api.Stmt{x.s}, []int{5, 5}, env); got.String() != x.want {
			t.Fatalf("kind %d: %v, want %s", x.s.Kind, got, x.want)
		}
	}
}

// P5.1 and P5.2: any handlers.
func TestP5_2Any(t *testing.T) {
	m := newMaker(1)
	met := map[string]int{}
	for range 5000 {
		body, cells, v := m.list(1+m.Intn(5)), m.cells(), m.env()
		want, lost := byRules(body, cells, v)
		wantRun(t, body, cells, v, want)
		for what, holds := range map[string]bool{
			"much":    want.used > 30 && want.used < 400,
			"end":     want.used == 400,
			"effects": len(want.effects) > 0 && lost == 0,
			"lost":    lost > 0,
			"cells":   !slices.Equal(want.cells, cells),
		} {
			if holds {
				met[what]++
			}
		}
	}
	for _, what := range []string{"much", "end", "effects", "lost", "cells"} {
		if met[what] < 20 {
			t.Errorf("only %d handlers of the sort %q", met[what], what)
		}
	}
}

// R2 and R3: neither statements nor cells change, nor what lies behind them; results are memory of their own, and nothing is kept.
func TestP5_2Pure(t *testing.T) {
	m := newMaker(2)
	for range 1000 {
		cells := append(m.cells(), 88, 99)
		before := slices.Clone(cells)
		body := copied(m.list(3))
		text := show(body)
		first := run(body, cells[:len(cells)-2], env)
		written := first.String()
		for i := range first.cells {
			first.cells[i]--
		}
		for i := range first.effects {
			first.effects[i].Value--
		}
		if !slices.Equal(cells, before) || show(body) != text {
			t.Fatalf("%v became %v, or %s became %s", before, cells, text, show(body))
		}
		if again := run(body, cells[:len(cells)-2], env); again.String() != written {
			t.Fatalf("%s is %v at first, and then %v", text, written, again)
		}
	}
	for _, body := range [][]api.Stmt{nil, {}} {
		for _, cells := range [][]int{nil, {}} {
			wantRun(t, body, cells, env, outcome{})
			s := when(number(1), body, body)
			wantRun(t, []api.Stmt{s, loop(number(0), body...)}, cells, api.Env{}, outcome{used: 2})
		}
	}
}

// P5.3: a list is its beginning and then the rest, if fuel and effects suffice for both; and the fuel used is at most api.MaxFuel.
func TestP5_3Parts(t *testing.T) {
	m := newMaker(3)
	met := 0
	for range 4000 {
		body, cells, v := append(m.list(3), m.list(3)...), m.cells(), m.env()
		whole := run(body, cells, v)
		if whole.used > api.MaxFuel || whole.used < 0 {
			t.Fatalf("%v uses %d", body, whole.used)
		}
		for cut := range len(body) + 1 {
			a := run(body[:cut], cells, v)
			b := run(body[cut:], a.cells, v)
			if a.used+b.used > api.MaxFuel || len(a.effects)+len(b.effects) > api.MaxEffects {
				continue
			}
			met += cut * (len(body) - cut)
			both := outcome{b.cells, append(a.effects, b.effects...), a.used + b.used}
			if both.String() != whole.String() {
				t.Fatalf("%v cut at %d: %v, want %v", body, cut, both, whole)
			}
		}
	}
	if met < 4000 {
		t.Errorf("only %d cuts", met)
	}
}
