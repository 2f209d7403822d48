package syntax_test

import (
	"math"
	"slices"
	"strings"
	"testing"

	"rollbacknet/api"
	"rollbacknet/syntax"
)

// wantCheck wants the error from Check and from Format.
func wantCheck(t *testing.T, p api.Program, want api.Errno) {
	t.Helper()
	if e := syntax.Check(p); e != want {
		t.Errorf("Check(%+v) = %d, want %d", p, e, want)
	}
	text, e := syntax.Format(p)
	if e != want || want != api.OK && text != "" {
		t.Errorf("Format(%+v) = %q, %d, want %d", p, text, e, want)
	}
}

func wantDepth(t *testing.T, p api.Program, want int) {
	t.Helper()
	if d := syntax.Depth(p); d != want {
		t.Errorf("Depth(%+v) = %d, want %d", p, d, want)
	}
}

// P2.3: what counts, and by how much.
func TestP2_3Depth(t *testing.T) {
	wantDepth(t, api.Program{}, 0)
	wantDepth(t, api.Program{Vars: []api.Var{{Name: "x"}}, Tick: []api.Stmt{}}, 0)
	wantDepth(t, onTick(api.Stmt{}), 2)
	wantDepth(t, onTick(api.Stmt{Kind: -5}, api.Stmt{Kind: 99}), 2)
	three := apply(api.Add, number(1), apply(api.Neg, number(2)))
	for _, s := range []api.Stmt{
		{Value: three},
		{Place: three},
		{Value: apply(99, apply(-1, api.Expr{}))},
		{Value: apply(api.Index, number(1), number(2), three.Args[1])},
		{Kind: api.Out, Body: []api.Stmt{{}, {Value: number(1)}, {Place: three.Args[1]}}},
		{Kind: api.Out, Else: []api.Stmt{{Value: three.Args[1]}, {}}},
		{Body: []api.Stmt{{Else: []api.Stmt{{}}}}},
		{Body: []api.Stmt{{}}, Else: []api.Stmt{{Body: []api.Stmt{{}}}}, Value: three.Args[1]},
	} {
		wantDepth(t, onTick(s), 4)
		wantDepth(t, onTick(api.Stmt{}, s, api.Stmt{}), 4)
		l := []api.Stmt{s}
		for _, p := range []api.Program{{Start: l}, {Message: l}, {Tick: l}, {Input: l}} {
			wantDepth(t, p, 4)
		}
		short := []api.Stmt{{}}
		wantDepth(t, api.Program{Start: short, Message: l, Tick: short, Input: short}, 4)
		wantDepth(t, api.Program{Start: l, Message: short, Tick: l, Input: []api.Stmt{{Body: l}}}, 5)
	}
}

// byLevels is the depth counted level by level.
func byLevels(p api.Program) int {
	stmts := slices.Concat(p.Start, p.Message, p.Tick, p.Input)
	var exprs []api.Expr
	levels := 0
	for ; len(stmts) > 0 || len(exprs) > 0; levels++ {
		var deeperStmts []api.Stmt
		var deeperExprs []api.Expr
		for _, s := range stmts {
			deeperStmts = append(append(deeperStmts, s.Body...), s.Else...)
			deeperExprs = append(deeperExprs, s.Place, s.Value)
		}
		for _, e := range exprs {
			deeperExprs = append(deeperExprs, e.Args...)
		}
		stmts, exprs = deeperStmts, deeperExprs
	}
	return levels
}

// P2.3: programs of all kinds.
func TestP2_3Any(t *testing.T) {
	m := newMaker(3)
	for range 2000 {
		for _, p := range []api.Program{m.program(), m.rubbish()} {
			wantDepth(t, p, byLevels(p))
		}
	}
}

// P2.3: as many levels as there may be.
func TestP2_3Great(t *testing.T) {
	wantDeep := func(p api.Program, want int) {
		t.Helper()
		if d := syntax.Depth(p); d != want {
			t.Errorf("Depth = %d, want %d", d, want)
		}
		if e := syntax.Check(p); e != api.ErrTooDeep {
			t.Errorf("Check = %d", e)
		}
		if text, e := syntax.Format(p); text != "" || e != api.ErrTooDeep {
			t.Errorf("Format = %q, %d", text, e)
		}
	}
	const levels = 1 << 16
	wantDeep(onTick(assign("x", negated(levels-2))), levels)
	l := []api.Stmt{{}}
	for i := range levels - 2 {
		if i%2 == 0 {
			l = []api.Stmt{{Body: l}}
		} else {
			l = []api.Stmt{{Else: l}}
		}
	}
	wantDeep(api.Program{Input: l}, levels)
}

// P2.4: too many levels, which come first. The limit is no error.
func TestP2_4TooDeep(t *testing.T) {
	wantCheck(t, onTick(assign("x", negated(14))), api.OK)
	wantCheck(t, onTick(assign("x", negated(15))), api.ErrTooDeep)
	wantCheck(t, onTick(api.Stmt{Kind: 99, Place: negated(15)}), api.ErrTooDeep)
	wantCheck(t, api.Program{Vars: []api.Var{{}}, Start: []api.Stmt{{}}, Input: []api.Stmt{{Place: negated(15)}}}, api.ErrTooDeep)
	wantCheck(t, api.Program{Vars: []api.Var{{}}, Start: []api.Stmt{{}}, Input: []api.Stmt{{Place: negated(14)}}}, api.ErrShape)
	l := []api.Stmt{output(number(1))}
	for range 14 {
		l = []api.Stmt{{Kind: api.While, Value: number(1), Body: l}}
	}
	wantCheck(t, onTick(l...), api.OK)
	wantCheck(t, onTick(api.Stmt{Kind: api.While, Value: number(1), Body: l}), api.ErrTooDeep)
}

// P2.4: declarations.
func TestP2_4Vars(t *testing.T) {
	for _, x := range []struct {
		v    api.Var
		want api.Errno
	}{
		{api.Var{Name: "x"}, api.OK},
		{api.Var{Name: "x", Init: math.MaxInt64}, api.OK},
		{api.Var{Name: "x", Init: math.MinInt64 + 1}, api.OK},
		{api.Var{Name: "x", Init: math.MinInt64}, api.ErrShape},
		{api.Var{Name: "x", Size: 1}, api.OK},
		{api.Var{Name: "x", Size: math.MaxInt64}, api.OK},
		{api.Var{Name: "x", Size: -1}, api.ErrShape},
		{api.Var{Name: "x", Size: math.MinInt64}, api.ErrShape},
		{api.Var{Name: "x", Size: 1, Init: 1}, api.ErrShape},
		{api.Var{Name: "x", Size: 1, Init: -1}, api.ErrShape},
		{api.Var{Name: "x", Size: 1, Init: math.MinInt64}, api.ErrShape},
		{api.Var{}, api.ErrShape},
		{api.Var{Name: "array"}, api.ErrShape},
		{api.Var{Name: "1"}, api.ErrShape},
		{api.Var{Name: "x y"}, api.ErrShape},
		{api.Var{Name: strings.Repeat("n", api.MaxName)}, api.OK},
		{api.Var{Name: strings.Repeat("n", api.MaxName+1)}, api.ErrShape},
	} {
		good := api.Var{Name: "x"}
		wantCheck(t, api.Program{Vars: []api.Var{x.v}}, x.want)
		wantCheck(t, api.Program{Vars: []api.Var{good, x.v}}, x.want)
		wantCheck(t, api.Program{Vars: []api.Var{x.v, good, good}, Tick: []api.Stmt{output(number(1))}}, x.want)
	}
}

// exprs returns an expression of each Op, as Parse makes it.
func exprs() []api.Expr {
	l := []api.Expr{number(0), number(7), scalar("x"), element("x", number(1))}
	for _, s := range words {
		l = append(l, api.Expr{Op: s.op})
	}
	for _, s := range prefix {
		l = append(l, apply(s.op, scalar("x")))
	}
	for _, s := range binary {
		l = append(l, apply(s.op, scalar("x"), number(2)))
	}
	return l
}

// wantExprs wants the error wherever the expression stands.
func wantExprs(t *testing.T, e api.Expr, want api.Errno) {
	t.Helper()
	one := number(1)
	for _, s := range []api.Stmt{
		assign("y", e),
		{Kind: api.Store, Name: "y", Place: e, Value: one},
		{Kind: api.Store, Name: "y", Place: one, Value: e},
		{Kind: api.If, Value: e},
		{Kind: api.While, Value: e},
		{Kind: api.Put, Place: e, Value: one},
		{Kind: api.Put, Place: one, Value: e},
		output(e),
		output(apply(api.Not, e)),
		output(apply(api.Add, e, one)),
		output(apply(api.Add, one, e)),
		output(element("y", e)),
	} {
		wantStmts(t, s, want)
	}
}

// wantStmts wants the error wherever the statement stands.
func wantStmts(t *testing.T, s api.Stmt, want api.Errno) {
	t.Helper()
	l := []api.Stmt{output(number(1)), s}
	wantCheck(t, api.Program{Start: l}, want)
	wantCheck(t, api.Program{Message: l}, want)
	wantCheck(t, api.Program{Tick: l}, want)
	wantCheck(t, api.Program{Input: l}, want)
	wantCheck(t, onTick(api.Stmt{Kind: api.If, Value: number(1), Body: l}), want)
	wantCheck(t, onTick(api.Stmt{Kind: api.If, Value: number(1), Else: l}), want)
	wantCheck(t, onTick(api.Stmt{Kind: api.While, Value: number(1), Body: l}), want)
}

// P2.4: the fields of expressions.
func TestP2_4Exprs(t *testing.T) {
	if len(exprs()) != 23 {
		t.Fatalf("%d expressions", len(exprs()))
	}
	for _, good := range exprs() {
		wantExprs(t, good, api.OK)
		named := good.Op == api.Scalar || good.Op == api.Index
		change := func(f func(e *api.Expr)) {
			t.Helper()
			e := cloneExpr(good)
			f(&e)
			wantExprs(t, e, api.ErrShape)
		}
		change(func(e *api.Expr) { e.Slot = 1 })
		change(func(e *api.Expr) { e.Slot = math.MinInt64 })
		change(func(e *api.Expr) { e.Size = 1 })
		change(func(e *api.Expr) { e.Size = -1 })
		change(func(e *api.Expr) { e.Value = -1 })
		change(func(e *api.Expr) { e.Value = math.MinInt64 })
		change(func(e *api.Expr) { e.Name = "if" })
		change(func(e *api.Expr) { e.Args = append(e.Args, number(1)) })
		change(func(e *api.Expr) { e.Args = append(e.Args, number(1), number(1), number(1)) })
		if good.Op != api.Const {
			change(func(e *api.Expr) { e.Value = 1 })
		}
		if named {
			change(func(e *api.Expr) { e.Name = "" })
			change(func(e *api.Expr) { e.Name = strings.Repeat("n", api.MaxName+1) })
		} else {
			change(func(e *api.Expr) { e.Name = "x" })
		}
		if n := len(good.Args); n > 0 {
			change(func(e *api.Expr) { e.Args = e.Args[:n-1] })
			change(func(e *api.Expr) { e.Args = nil })
			change(func(e *api.Expr) { e.Args[n-1] = api.Expr{} })
			change(func(e *api.Expr) { e.Args[0].Size = 1 })
		} else {
			e := good
			e.Args = []api.Expr{}
			wantExprs(t, e, api.OK)
		}
	}
	for _, op := range []int{0, -1, 23, math.MaxInt64, math.MinInt64} {
		wantExprs(t, api.Expr{Op: op}, api.ErrShape)
		wantExprs(t, apply(op, number(1)), api.ErrShape)
		wantExprs(t, apply(op, number(1), number(2)), api.ErrShape)
	}
	wantExprs(t, number(math.MaxInt64), api.OK)
}

// P2.4: the fields of statements.
func TestP2_4Stmts(t *testing.T) {
	in, one := []api.Stmt{output(number(1))}, number(1)
	for _, good := range []api.Stmt{
		assign("x", one),
		{Kind: api.Store, Name: "x", Place: one, Value: one},
		{Kind: api.If, Value: one},
		{Kind: api.If, Value: one, Body: in, Else: in},
		{Kind: api.While, Value: one},
		{Kind: api.While, Value: one, Body: in},
		{Kind: api.Put, Place: one, Value: one},
		output(one),
	} {
		wantStmts(t, good, api.OK)
		change := func(fits bool, f func(s *api.Stmt)) {
			t.Helper()
			s := good
			f(&s)
			wantStmts(t, s, map[bool]api.Errno{true: api.OK, false: api.ErrShape}[fits])
		}
		named := good.Kind == api.Assign || good.Kind == api.Store
		placed := good.Kind == api.Store || good.Kind == api.Put
		change(false, func(s *api.Stmt) { s.Slot = 1 })
		change(false, func(s *api.Stmt) { s.Slot = -1 })
		change(false, func(s *api.Stmt) { s.Size = 1 })
		change(false, func(s *api.Stmt) { s.Size = math.MinInt64 })
		change(named, func(s *api.Stmt) { s.Name = "y" })
		change(!named, func(s *api.Stmt) { s.Name = "" })
		change(false, func(s *api.Stmt) { s.Name = "send" })
		change(placed, func(s *api.Stmt) { s.Place = scalar("y") })
		change(!placed, func(s *api.Stmt) { s.Place = api.Expr{} })
		change(!placed, func(s *api.Stmt) { s.Place = api.Expr{Args: []api.Expr{}} })
		for _, e := range []api.Expr{{Op: -1}, {Value: 1}, {Name: "x"}, {Slot: 1}, {Size: 1}, {Args: []api.Expr{{}}}, {Args: []api.Expr{one}}} {
			change(false, func(s *api.Stmt) { s.Place = e })
		}
		change(false, func(s *api.Stmt) { s.Value = api.Expr{} })
		change(good.Kind == api.If || good.Kind == api.While, func(s *api.Stmt) { s.Body = in })
		change(good.Kind == api.If, func(s *api.Stmt) { s.Else = in })
		change(true, func(s *api.Stmt) { s.Body, s.Else = []api.Stmt{}, nil })
		change(true, func(s *api.Stmt) { s.Body, s.Else = nil, []api.Stmt{} })
		change(false, func(s *api.Stmt) { s.Body = []api.Stmt{{}} })
		change(false, func(s *api.Stmt) { s.Else = []api.Stmt{{}} })
		for _, kind := range []int{0, -1, 7, math.MaxInt64, math.MinInt64} {
			change(false, func(s *api.Stmt) { s.Kind = kind })
		}
	}
	wantStmts(t, api.Stmt{}, api.ErrShape)
}

// P2.4 and P2.6: Check finds nothing in what Parse returns, and what Check finds nothing in can be parsed.
func TestP2_4Any(t *testing.T) {
	m := newMaker(4)
	for range 3000 {
		p := m.program()
		if byLevels(p) <= api.MaxDepth {
			if e := syntax.Check(p); e != api.OK {
				t.Fatalf("Check(%+v) = %d", p, e)
			}
		}
		p = m.rubbish()
		text, e := syntax.Format(p)
		if c := syntax.Check(p); c != api.OK && (e != c || text != "") {
			t.Fatalf("Check(%+v) = %d, Format = %q, %d", p, c, text, e)
		}
		if e == api.OK {
			wantProgram(t, text, p)
		}
	}
}

// R2: arguments stay as they are, with the spare capacity of their lists.
func TestP2_4Pure(t *testing.T) {
	m := newMaker(5)
	for i := range 500 {
		p := m.program()
		if i%2 == 0 {
			p = m.rubbish()
		}
		q := clone(p)
		syntax.Depth(q)
		syntax.Check(q)
		syntax.Format(q)
		if !same(p, q) || !spareIsZero(q) {
			t.Fatalf("%+v became %+v", p, q)
		}
	}
}

// spareIsZero reports whether there is nothing behind the lists of a clone.
func spareIsZero(p api.Program) bool {
	for _, v := range p.Vars[len(p.Vars):cap(p.Vars)] {
		if v != (api.Var{}) {
			return false
		}
	}
	for _, l := range [][]api.Stmt{p.Start, p.Message, p.Tick, p.Input} {
		if !spareStmts(l) {
			return false
		}
	}
	return true
}

func spareStmts(l []api.Stmt) bool {
	for _, s := range l[len(l):cap(l)] {
		if !same(s, api.Stmt{}) {
			return false
		}
	}
	for _, s := range l {
		if !spareStmts(s.Body) || !spareStmts(s.Else) || !spareExprs(s.Place.Args) || !spareExprs(s.Value.Args) {
			return false
		}
	}
	return true
}

func spareExprs(l []api.Expr) bool {
	for _, e := range l[len(l):cap(l)] {
		if !same(e, api.Expr{}) {
			return false
		}
	}
	for _, e := range l {
		if !spareExprs(e.Args) {
			return false
		}
	}
	return true
}
