package eval_test

import (
	"slices"
	"testing"

	"rollbacknet/api"
	"rollbacknet/eval"
	"rollbacknet/resolve"
	"rollbacknet/syntax"
)

func wantApply(t *testing.T, op, a, b, want int) {
	t.Helper()
	if got := eval.Apply(op, a, b); got != want {
		t.Errorf("Apply(%d, %d, %d) = %d, want %d", op, a, b, got, want)
	}
}

func wantValue(t *testing.T, e api.Expr, cells []int, v api.Env, want int) {
	t.Helper()
	if got := eval.Value(e, cells, v); got != want {
		t.Errorf("Value(%+v, %v, %+v) = %d, want %d", e, cells, v, got, want)
	}
}

// P4.1: the operators one by one, with the edges that the chapter names.
func TestP4_1Apply(t *testing.T) {
	for _, x := range []struct{ op, a, b, want int }{
		{api.Neg, 5, 0, -5}, {api.Neg, -5, 0, 5}, {api.Neg, 0, 0, 0}, {api.Neg, greatest, 0, least + 1}, {api.Neg, least, 0, least},
		{api.Not, 0, 0, 1}, {api.Not, 1, 0, 0}, {api.Not, 2, 0, 0}, {api.Not, -1, 0, 0}, {api.Not, least, 0, 0},
		{api.Add, 3, 4, 7}, {api.Add, greatest, 1, least}, {api.Add, least, -1, greatest}, {api.Add, least, least, 0},
		{api.Sub, 3, 4, -1}, {api.Sub, 4, 3, 1}, {api.Sub, least, 1, greatest}, {api.Sub, 0, least, least}, {api.Sub, greatest, -1, least},
		{api.Mul, 3, -4, -12}, {api.Mul, greatest, 2, -2}, {api.Mul, least, -1, least}, {api.Mul, 1 << 32, 1 << 32, 0}, {api.Mul, greatest, greatest, 1},
		{api.Div, 7, 2, 3}, {api.Div, -7, 2, -3}, {api.Div, 7, -2, -3}, {api.Div, -7, -2, 3}, {api.Div, 2, 7, 0}, {api.Div, -1, 2, 0},
		{api.Rem, 7, 2, 1}, {api.Rem, -7, 2, -1}, {api.Rem, 7, -2, 1}, {api.Rem, -7, -2, -1}, {api.Rem, 2, 7, 2}, {api.Rem, -1, 2, -1},
		{api.Div, least, -1, least}, {api.Rem, least, -1, 0}, {api.Div, least, 1, least}, {api.Div, least, least, 1}, {api.Div, greatest, least, 0}, {api.Rem, greatest, least, greatest},
		{api.Div, 7, 0, 0}, {api.Div, -7, 0, 0}, {api.Div, 0, 0, 0}, {api.Div, least, 0, 0}, {api.Rem, 7, 0, 0}, {api.Rem, -7, 0, 0}, {api.Rem, 0, 0, 0}, {api.Rem, least, 0, 0},
		{api.Less, 1, 2, 1}, {api.Less, 2, 2, 0}, {api.Less, 3, 2, 0}, {api.Less, least, greatest, 1}, {api.Less, greatest, least, 0},
		{api.Most, 1, 2, 1}, {api.Most, 2, 2, 1}, {api.Most, 3, 2, 0}, {api.Most, least, greatest, 1}, {api.Most, greatest, least, 0},
		{api.More, 1, 2, 0}, {api.More, 2, 2, 0}, {api.More, 3, 2, 1}, {api.More, least, greatest, 0}, {api.More, greatest, least, 1},
		{api.Least, 1, 2, 0}, {api.Least, 2, 2, 1}, {api.Least, 3, 2, 1}, {api.Least, least, greatest, 0}, {api.Least, greatest, least, 1},
		{api.Same, 1, 2, 0}, {api.Same, 2, 2, 1}, {api.Same, -2, 2, 0}, {api.Same, least, least, 1},
		{api.Other, 1, 2, 1}, {api.Other, 2, 2, 0}, {api.Other, -2, 2, 1}, {api.Other, least, least, 0},
		{api.And, 0, 0, 0}, {api.And, 0, 5, 0}, {api.And, 5, 0, 0}, {api.And, 5, 6, 1}, {api.And, 1, 2, 1}, {api.And, -1, least, 1},
		{api.Or, 0, 0, 0}, {api.Or, 0, 5, 1}, {api.Or, 5, 0, 1}, {api.Or, 5, 6, 1}, {api.Or, -1, 1, 1}, {api.Or, least, least, 1},
	} {
		wantApply(t, x.op, x.a, x.b, x.want)
	}
}

// P4.1: every operator with numbers of any length.
func TestP4_1Any(t *testing.T) {
	m := newMaker(1)
	for op := api.Neg; op <= api.Or; op++ {
		for _, a := range values {
			for _, b := range values {
				wantApply(t, op, a, b, exact(op, a, b))
			}
		}
		for range 2000 {
			a, b := int(m.Uint64()), int(m.Uint64())>>m.Intn(64)
			wantApply(t, op, a, b, exact(op, a, b))
			wantApply(t, op, b, a, exact(op, b, a))
		}
	}
}

// P4.1: Neg and Not use only a.
func TestP4_1Unary(t *testing.T) {
	for _, a := range values {
		for _, b := range values {
			wantApply(t, api.Neg, a, b, eval.Apply(api.Neg, a, 0))
			wantApply(t, api.Not, a, b, eval.Apply(api.Not, a, 0))
		}
	}
}

// P4.1: other operators have the result 0, those of leaves and those beside all numbers too.
func TestP4_1Others(t *testing.T) {
	others := slices.DeleteFunc(slices.Clone(values), isOperator)
	for op := -30; op < 300; op++ {
		if !isOperator(op) {
			others = append(others, op, op+1<<32, op-1<<32)
		}
	}
	for op := api.Neg; op <= api.Or; op++ {
		others = append(others, -op, op+1<<32, op+least, op+256)
	}
	for _, op := range others {
		for _, a := range []int{0, 1, -7, least, greatest} {
			for _, b := range []int{0, 2, 9, least} {
				wantApply(t, op, a, b, 0)
			}
		}
	}
}

// P4.2: constants, cells and the fields of the Env; nothing else of the expression counts.
func TestP4_2Leaves(t *testing.T) {
	cells := []int{10, 20, 30}
	others := api.Expr{Name: "x", Value: 7, Slot: 1, Size: 2, Args: []api.Expr{number(8), number(9)}}
	for _, x := range []struct{ op, want int }{
		{api.Const, 7}, {api.Scalar, 20}, {api.Self, 101}, {api.Procs, 102}, {api.From, 103}, {api.Value, -104},
	} {
		e := others
		e.Op = x.op
		wantValue(t, e, cells, env, x.want)
	}
	for _, v := range values {
		wantValue(t, number(v), cells, env, v)
		wantValue(t, number(v), nil, api.Env{}, v)
		wantValue(t, apply(api.Self), nil, api.Env{Self: v}, v)
		wantValue(t, apply(api.Procs), nil, api.Env{Procs: v}, v)
		wantValue(t, apply(api.From), nil, api.Env{From: v}, v)
		wantValue(t, apply(api.Value), nil, api.Env{Value: v}, v)
		wantValue(t, scalar(1), []int{5, v, 6}, env, v)
	}
}

// P4.2: a cell that does not exist has the value 0, even if the memory behind the cells has more.
func TestP4_2Scalar(t *testing.T) {
	cells := []int{10, 20, 30, 40, 50}
	for slot, want := range []int{10, 20, 30, 0, 0, 0} {
		wantValue(t, scalar(slot), cells[:3], env, want)
	}
	for _, slot := range []int{-1, -2, -3, least, least + 1, -1 << 32, 1 << 32, 1<<32 + 1, 1<<62 + 1, greatest} {
		wantValue(t, scalar(slot), cells[:3], env, 0)
	}
	wantValue(t, scalar(0), nil, env, 0)
	wantValue(t, scalar(0), []int{}, env, 0)
	wantValue(t, scalar(0), cells[:0], env, 0)
}

// P4.2: the indexes that an array has, and those that it has not.
func TestP4_2Index(t *testing.T) {
	cells := []int{10, 20, 30, 40, 50, 60}
	for _, x := range []struct{ slot, size, i, want int }{
		{1, 2, 0, 20}, {1, 2, 1, 30}, {1, 2, 2, 0}, {1, 2, -1, 0}, {1, 2, least, 0}, {1, 2, greatest, 0},
		{0, 1, 0, 10}, {0, 1, 1, 0}, {0, 4, 3, 40}, {0, 9, 3, 40}, {0, 9, 4, 0}, {3, 9, 0, 40}, {3, 9, 1, 0}, {4, 1, 0, 0},
		{1, 0, 0, 0}, {1, -1, 0, 0}, {1, -3, -2, 0}, {1, least, 0, 0}, {1, least, -1, 0}, {1, greatest, 2, 40}, {1, greatest, -1, 0},
		{-1, 4, 0, 0}, {-1, 4, 1, 10}, {-1, 4, 3, 30}, {-3, 6, 5, 30}, {-3, 5, 5, 0}, {-3, 6, 6, 0},
		{least, greatest, 0, 0}, {least, greatest, greatest - 1, 0}, {-greatest, greatest, greatest - 1, 0}, {1 - greatest, greatest, greatest - 1, 10}, {2 - greatest, greatest, greatest - 1, 20},
		{greatest, greatest, 0, 0}, {greatest, greatest, 1, 0}, {greatest, greatest, greatest - 1, 0}, {greatest, 5, 2, 0}, {1 << 62, greatest, 1 << 62, 0}, {1 << 32, 5, 1, 0}, {2, greatest, greatest - 1, 0},
	} {
		wantValue(t, element(x.slot, x.size, number(x.i)), cells[:4], env, x.want)
		wantValue(t, element(x.slot, x.size, number(x.i)), nil, env, 0)
	}
}

// P4.2: each index of each array, in cells of every length.
func TestP4_2Indexes(t *testing.T) {
	cells := []int{10, 20, 30, 40, 50}
	for n := range cells {
		for slot := -3; slot < 7; slot++ {
			for size := -2; size < 7; size++ {
				for i := -4; i < 8; i++ {
					e := element(slot, size, number(i))
					wantValue(t, e, cells[:n], env, byRules(e, cells[:n], env))
				}
			}
		}
	}
}

// P4.2: of the Args the first two count; a missing one is 0.
func TestP4_2Args(t *testing.T) {
	one, two, far := number(-7), number(2), number(1000)
	for op := api.Neg; op <= api.Or; op++ {
		wantValue(t, apply(op), nil, env, exact(op, 0, 0))
		wantValue(t, api.Expr{Op: op, Args: []api.Expr{}}, nil, env, exact(op, 0, 0))
		wantValue(t, apply(op, one), nil, env, exact(op, -7, 0))
		wantValue(t, apply(op, one, two), nil, env, exact(op, -7, 2))
		wantValue(t, apply(op, two, one), nil, env, exact(op, 2, -7))
		wantValue(t, apply(op, one, two, far), nil, env, exact(op, -7, 2))
		wantValue(t, apply(op, one, two, far, far, one), nil, env, exact(op, -7, 2))
		spare := []api.Expr{one, two}
		wantValue(t, apply(op, spare[:1]...), nil, env, exact(op, -7, 0))
		wantValue(t, apply(op, spare[:0]...), nil, env, exact(op, 0, 0))
		others := api.Expr{Op: op, Value: 9, Name: "x", Slot: 1, Size: 2, Args: spare}
		wantValue(t, others, []int{5, 6, 7}, env, exact(op, -7, 2))
	}
	cells := []int{10, 20, 30, 40}
	wantValue(t, element(1, 3), cells, env, 20)
	wantValue(t, element(1, 3, number(1), number(2)), cells, env, 30)
	wantValue(t, element(1, 3, number(3), number(2), number(0)), cells, env, 0)
	wantValue(t, element(1, 0), cells, env, 0)
}

// P4.2: an expression with another Op is 0.
func TestP4_2Others(t *testing.T) {
	for _, op := range []int{0, -1, -2, -api.Add, api.Or + 1, api.Or + 2, 100, 256 + api.Const, 1<<32 + api.Const, 1<<32 + api.Add, least, least + api.Add, greatest} {
		e := api.Expr{Op: op, Value: 7, Name: "x", Slot: 1, Size: 2, Args: []api.Expr{number(1), number(2), number(3)}}
		wantValue(t, e, []int{10, 20, 30}, env, 0)
		wantValue(t, api.Expr{Op: op}, nil, env, 0)
		wantValue(t, apply(api.Sub, number(5), e), []int{10, 20, 30}, env, 5)
	}
}

// P4.2: cells and the Env are the same ones in all parts of an expression.
func TestP4_2Parts(t *testing.T) {
	cells := []int{2, 30, 40, 50}
	leaves := []api.Expr{scalar(0), scalar(3), apply(api.Self), apply(api.Procs), apply(api.From), apply(api.Value), element(1, 3, scalar(0))}
	known := []int{2, 50, 101, 102, 103, -104, 50}
	for i, e := range leaves {
		wantValue(t, e, cells, env, known[i])
		wantValue(t, apply(api.Neg, e), cells, env, -known[i])
		wantValue(t, apply(api.Sub, e, number(1)), cells, env, known[i]-1)
		wantValue(t, apply(api.Sub, number(1), e), cells, env, 1-known[i])
		wantValue(t, element(0, 4, apply(api.Sub, e, number(known[i]-1))), cells, env, 30)
		wantValue(t, element(0, 4, element(0, 4, apply(api.Sub, e, number(known[i])))), cells, env, 40)
	}
}

// P4.2: the expressions of a program.
func TestP4_2Program(t *testing.T) {
	const head = "var x = 3; array a[2]; var y = -5; array b[3]; on tick { output "
	cells := []int{3, 11, 12, -5, 21, 22, 23}
	for text, want := range map[string]int{
		"x": 3, "a[0]": 11, "a[1]": 12, "a[2]": 0, "a[-1]": 0, "y": -5, "b[0]": 21, "b[2]": 23, "b[x]": 0, "b[x - 1]": 23, "b[y]": 0,
		"1 - 2 - 3": -4, "2 + 3 * 4": 14, "(2 + 3) * 4": 20, "y / 2 * 2 + y % 2": -5, "x / 0 + x % 0": 0, "-x": -3, "- -x": 3, "!x": 0, "!!x": 1,
		"self + procs * 1000": 102101, "from - value": 207, "value": -104,
		"x < 3 || y >= -5 && x != y": 1, "x <= 3 && (y > -5 || x == y)": 0, "x && y": 1, "x && 0": 0,
		"9223372036854775807 + 1": least, "(-9223372036854775807 - 1) / -1": least, "(-9223372036854775807 - 1) % -1": 0,
	} {
		p, at, e := syntax.Parse(head + text + "; }")
		c, wrong := resolve.Resolve(p)
		if e != api.OK || wrong != api.OK {
			t.Fatalf("%q: %d at %d, %d", text, e, at, wrong)
		}
		if got := eval.Value(c.Tick[0].Value, cells, env); got != want {
			t.Errorf("%s is %d, want %d", text, got, want)
		}
	}
}

// P4.2: any expressions.
func TestP4_2Any(t *testing.T) {
	m := newMaker(2)
	met := map[int]int{}
	for range 20000 {
		cells, v := m.cells(), m.env()
		for _, e := range []api.Expr{m.proper(1+m.Intn(6), len(cells)), m.rubbish(1 + m.Intn(5))} {
			want := byRules(e, cells, v)
			wantValue(t, e, cells, v, want)
			if want != 0 {
				met[e.Op]++
			}
		}
	}
	for op := api.Const; op <= api.Or; op++ {
		if met[op] < 20 {
			t.Errorf("only %d values with the operator %d", met[op], op)
		}
	}
}

// P4.2 with R10: as many levels as there may be, at each place where an expression has another one. The first wrong value ends the test, as a part that is evaluated twice makes it endless.
func TestP4_2Great(t *testing.T) {
	const levels = 1 << 16
	cells := []int{1, 0}
	deep := []api.Expr{number(1), number(1), number(1), number(1)}
	want := []int{1, 1, 1, 1}
	for i := range levels - 1 {
		deep = []api.Expr{
			apply(api.Add, deep[0], number(1)),
			apply(api.Sub, number(i), deep[1]),
			apply(api.Not, deep[2]),
			element(0, 2, deep[3]),
		}
		want = []int{want[0] + 1, i - want[1], 1 - want[2], cells[want[3]]}
		if i > 20 && i < levels-2 {
			continue
		}
		for j, e := range deep {
			if got := eval.Value(e, cells, env); got != want[j] {
				t.Fatalf("%d levels with the operator %d: %d, want %d", i+2, e.Op, got, want[j])
			}
		}
	}
}

// R2: neither expressions nor cells change, nor what lies behind them, and a second result is the same.
func TestP4_2Pure(t *testing.T) {
	m := newMaker(3)
	for range 2000 {
		cells := append(m.cells(), 88, 99)
		before := slices.Clone(cells)
		e := clone(m.rubbish(4))
		text := show(e)
		first := eval.Value(e, cells[:len(cells)-2], env)
		wantValue(t, e, cells[:len(cells)-2], env, first)
		if !slices.Equal(cells, before) || show(e) != text {
			t.Fatalf("%v became %v, or %s became %s", before, cells, text, show(e))
		}
	}
}

// renamed returns an expression with other names.
func renamed(e api.Expr) api.Expr {
	e = clone(e)
	e.Name += "y"
	for i := range e.Args {
		e.Args[i] = renamed(e.Args[i])
	}
	return e
}

// mark marks the cells that an expression mentions.
func mark(e api.Expr, mentioned []bool) {
	for i := range mentioned {
		of := e.Op == api.Scalar && i == e.Slot || e.Op == api.Index && i >= e.Slot && i < e.Slot+e.Size
		mentioned[i] = mentioned[i] || of
	}
	for _, a := range e.Args {
		mark(a, mentioned)
	}
}

// P4.3: names do not count.
func TestP4_3Names(t *testing.T) {
	m := newMaker(4)
	for range 3000 {
		cells, v := m.cells(), m.env()
		for _, e := range []api.Expr{m.proper(5, len(cells)), m.rubbish(4)} {
			wantValue(t, renamed(e), cells, v, eval.Value(e, cells, v))
		}
	}
}

// P4.3: cells that are not mentioned do not count, further ones neither.
func TestP4_3Cells(t *testing.T) {
	m := newMaker(5)
	changed := 0
	for range 5000 {
		cells, v := m.cells(), m.env()
		e := m.proper(1+m.Intn(4), len(cells))
		want := eval.Value(e, cells, v)
		mentioned := make([]bool, len(cells))
		mark(e, mentioned)
		for i := range cells {
			if !mentioned[i] {
				cells[i] = m.value()
				changed++
			}
		}
		wantValue(t, e, cells, v, want)
		wantValue(t, e, append(cells, m.value(), m.value()), v, want)
	}
	if changed < 5000 {
		t.Errorf("only %d cells were changed", changed)
	}
}

// P4.3: operands of symmetric operators are exchanged.
func TestP4_3Exchange(t *testing.T) {
	m := newMaker(6)
	for _, op := range []int{api.Add, api.Mul, api.Same, api.Other, api.And, api.Or} {
		for _, a := range values {
			for _, b := range values {
				wantApply(t, op, b, a, eval.Apply(op, a, b))
			}
		}
		for range 500 {
			cells, v := m.cells(), m.env()
			a, b := m.proper(4, len(cells)), m.rubbish(3)
			wantValue(t, apply(op, b, a), cells, v, eval.Value(apply(op, a, b), cells, v))
		}
	}
}

// P4.3: a / b * b + a % b is a if b is not 0, and otherwise 0.
func TestP4_3Division(t *testing.T) {
	for _, a := range values {
		for _, b := range values {
			x, y := number(a), number(b)
			e := apply(api.Add, apply(api.Mul, apply(api.Div, x, y), y), apply(api.Rem, x, y))
			if b == 0 {
				wantValue(t, e, nil, env, 0)
			} else {
				wantValue(t, e, nil, env, a)
			}
		}
	}
}
