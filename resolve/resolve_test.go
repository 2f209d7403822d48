package resolve_test

import (
	"fmt"
	"math"
	"math/big"
	"math/rand"
	"slices"
	"strconv"
	"strings"
	"testing"

	"rollbacknet/api"
	"rollbacknet/resolve"
	"rollbacknet/syntax"
)

func wantLookup(t *testing.T, l []api.Var, name string, slot, size int, ok bool) {
	t.Helper()
	if a, b, c := resolve.Lookup(l, name); a != slot || b != size || c != ok {
		t.Errorf("Lookup(%+v, %q) = %d, %d, %v, want %d, %d, %v", l, name, a, b, c, slot, size, ok)
	}
}

func wantCode(t *testing.T, p api.Program, want api.Code) {
	t.Helper()
	if c, e := resolve.Resolve(p); e != api.OK || !same(c, want) {
		t.Errorf("Resolve(%+v) = %+v, %d, want %+v", p, c, e, want)
	}
}

// wantError wants the error and the zero code.
func wantError(t *testing.T, p api.Program, want api.Errno) {
	t.Helper()
	if c, e := resolve.Resolve(p); e != want || !same(c, api.Code{}) {
		t.Errorf("Resolve(%+v) = %+v, %d, want %d", p, c, e, want)
	}
}

// P3.1: cells of variables and arrays, the first of two declarations, and names that are missing.
func TestP3_1Lookup(t *testing.T) {
	l := []api.Var{{Name: "x", Init: 7}, {Name: "a", Size: 2}, {Name: "y"}, {Name: "a"}, {Name: "x", Size: 5}, {Name: "", Size: 3}, {Name: "z", Size: 1}, {Name: "if"}}
	wantLookup(t, l, "x", 0, 0, true)
	wantLookup(t, l, "a", 1, 2, true)
	wantLookup(t, l, "y", 3, 0, true)
	wantLookup(t, l, "", 10, 3, true)
	wantLookup(t, l, "z", 13, 1, true)
	wantLookup(t, l, "if", 14, 0, true)
	wantLookup(t, l[2:], "a", 1, 0, true)
	for _, name := range []string{"X", "xx", "b", " x", "x\x00"} {
		wantLookup(t, l, name, 0, 0, false)
	}
	wantLookup(t, nil, "x", 0, 0, false)
	wantLookup(t, nil, "", 0, 0, false)
	wantLookup(t, []api.Var{}, "x", 0, 0, false)
}

// P3.1: a negative Size counts as a variable.
func TestP3_1Negative(t *testing.T) {
	l := []api.Var{{Name: "a", Size: -1}, {Name: "b", Size: math.MinInt}, {Name: "c", Size: -1 << 31}, {Name: "d"}}
	for i, v := range l {
		wantLookup(t, l, v.Name, i, 0, true)
	}
}

// P3.1: 2^31 cells ahead count, one more does not, and no sum is too great.
func TestP3_1Far(t *testing.T) {
	const far = 1 << 31
	for _, ahead := range [][]int{{far}, {far - 1, 0}, {far - 1, 1}, {1, far - 1}, {-5, far - 1}, {far / 2, far / 2}, {far - 3, 0, -1, 1}} {
		var l []api.Var
		for i, size := range ahead {
			l = append(l, api.Var{Name: strconv.Itoa(i), Size: size})
		}
		l = append(l, api.Var{Name: "x"}, api.Var{Name: "y"}, api.Var{Name: "x"}, api.Var{Name: "a", Size: far})
		wantLookup(t, l, "x", far, 0, true)
		wantLookup(t, l, "y", 0, 0, false)
		wantLookup(t, l, "a", 0, 0, false)
		wantLookup(t, l, "z", 0, 0, false)
		l[len(ahead)].Size = 9
		wantLookup(t, l, "x", far, 9, true)
		l[len(ahead)].Size = math.MaxInt
		wantLookup(t, l, "x", far, math.MaxInt, true)
		l[0].Size++
		if ahead[0] > 0 {
			wantLookup(t, l, "x", 0, 0, false)
		}
	}
	great := []api.Var{{Name: "a", Size: math.MaxInt}, {Name: "b", Size: math.MaxInt}, {Name: "c", Size: 2}, {Name: "d"}}
	wantLookup(t, great, "a", 0, math.MaxInt, true)
	for _, name := range []string{"b", "c", "d", "e"} {
		wantLookup(t, great, name, 0, 0, false)
		wantLookup(t, append([]api.Var{{Name: "o"}}, great...), name, 0, 0, false)
	}
	wantLookup(t, append([]api.Var{{Name: "o"}}, great...), "a", 1, math.MaxInt, true)
}

// counted is Lookup with sums of any length.
func counted(l []api.Var, name string) (int, int, bool) {
	ahead := big.NewInt(0)
	for _, v := range l {
		if v.Name == name {
			if ahead.Cmp(big.NewInt(1<<31)) > 0 {
				return 0, 0, false
			}
			return int(ahead.Int64()), max(0, v.Size), true
		}
		if v.Size > 0 {
			ahead.Add(ahead, big.NewInt(int64(v.Size)))
		} else {
			ahead.Add(ahead, big.NewInt(1))
		}
	}
	return 0, 0, false
}

// P3.1: lists of any declarations.
func TestP3_1Any(t *testing.T) {
	r := rand.New(rand.NewSource(1))
	sizes := []int{0, 0, 1, 2, 3, -1, 40, 1 << 30, 1<<31 - 1, 1 << 31, 1<<31 + 1, 1 << 62, math.MaxInt, math.MinInt}
	names := []string{"", "x", "y", "z", "a", "if"}
	for range 20000 {
		var l []api.Var
		some := sizes[:1+r.Intn(len(sizes))]
		for range r.Intn(7) {
			l = append(l, api.Var{Name: names[r.Intn(len(names))], Size: some[r.Intn(len(some))], Init: r.Int()})
		}
		for _, name := range names {
			slot, size, ok := counted(l, name)
			wantLookup(t, l, name, slot, size, ok)
		}
	}
}

// P3.2: the example of the chapter, and the numbers of cells that are allowed.
func TestP3_2Init(t *testing.T) {
	text := "var x = 3; array a[2]; var y;"
	wantCode(t, parse(t, text), api.Code{Init: []int{3, 0, 0, 0}})
	y := api.Stmt{Kind: api.Assign, Name: "y", Slot: 3, Value: api.Expr{Op: api.Const, Value: 1}}
	wantCode(t, parse(t, text+"on tick { y = 1; }"), api.Code{Init: []int{3, 0, 0, 0}, Tick: []api.Stmt{y}})
	wantError(t, parse(t, text+"on tick { a = 1; }"), api.ErrShape)
	wantCode(t, api.Program{}, api.Code{})
	wantCode(t, api.Program{Vars: []api.Var{}, Start: []api.Stmt{}}, api.Code{})
	wantCode(t, parse(t, "array a[32];"), api.Code{Init: make([]int, api.MaxCells)})
	wantCode(t, parse(t, "array a[1]; var b = -2; var c = 9223372036854775807; var d = -9223372036854775807; array e[3];"),
		api.Code{Init: []int{0, -2, math.MaxInt, -math.MaxInt, 0, 0, 0}})
	full, values := api.Program{}, []int(nil)
	for i := range api.MaxVars {
		full.Vars = append(full.Vars, api.Var{Name: "x" + strconv.Itoa(i), Init: i - 3})
		values = append(values, i-3)
	}
	wantCode(t, full, api.Code{Init: values})
	full.Vars[5] = api.Var{Name: "x5", Size: api.MaxCells - api.MaxVars + 1}
	values = slices.Replace(values, 5, 6, make([]int, api.MaxCells-api.MaxVars+1)...)
	wantCode(t, full, api.Code{Init: values})
}

// P3.2: names are found in every field of every statement, and nothing else changes.
func TestP3_2Fields(t *testing.T) {
	x := api.Expr{Op: api.Scalar, Name: "x"}
	a := api.Expr{Op: api.Index, Name: "a", Args: []api.Expr{{Op: api.Const, Value: 2}}}
	xAt, aAt := x, a
	xAt.Slot = 4
	aAt.Slot, aAt.Size = 1, 3
	vars := []api.Var{{Name: "o", Init: 6}, {Name: "a", Size: 3}, {Name: "x", Init: -6}}
	fill := func(x, a api.Expr, slots [4]int) []api.Stmt {
		inner := []api.Stmt{{Kind: api.Out, Value: x}, {Kind: api.Put, Place: a, Value: x}, {Kind: api.Put, Place: x, Value: a}}
		l := []api.Stmt{
			{Kind: api.Assign, Name: "x", Slot: slots[0], Value: a},
			{Kind: api.Assign, Name: "o", Slot: slots[3], Value: x},
			{Kind: api.Store, Name: "a", Slot: slots[1], Size: slots[2], Place: x, Value: a},
			{Kind: api.Store, Name: "a", Slot: slots[1], Size: slots[2], Place: a, Value: x},
			{Kind: api.While, Value: a, Body: inner},
			{Kind: api.If, Value: x, Body: inner},
			{Kind: api.If, Value: x, Else: inner},
			{Kind: api.If, Value: x, Body: []api.Stmt{{Kind: api.Out, Value: a}}, Else: []api.Stmt{{Kind: api.If, Value: a, Body: inner, Else: inner}}},
		}
		twice := a
		twice.Args = []api.Expr{{Op: api.Add, Args: []api.Expr{a, x}}}
		for op := api.Const; op <= api.Or; op++ {
			e := api.Expr{Op: op}
			switch {
			case op == api.Const || op >= api.Self && op <= api.Value:
			case op == api.Scalar:
				e = x
			case op == api.Index:
				e = twice
			case op == api.Neg || op == api.Not:
				e.Args = []api.Expr{twice}
			default:
				e.Args = []api.Expr{x, twice}
			}
			l = append(l, api.Stmt{Kind: api.Out, Value: e})
		}
		return l
	}
	before, after, values := fill(x, a, [4]int{}), fill(xAt, aAt, [4]int{4, 1, 3, 0}), []int{6, 0, 0, 0, -6}
	wantCode(t, api.Program{Vars: vars, Start: before}, api.Code{Init: values, Start: after})
	wantCode(t, api.Program{Vars: vars, Message: before}, api.Code{Init: values, Message: after})
	wantCode(t, api.Program{Vars: vars, Tick: before}, api.Code{Init: values, Tick: after})
	wantCode(t, api.Program{Vars: vars, Input: before}, api.Code{Init: values, Input: after})
	wantCode(t, api.Program{Vars: vars, Start: before[:1], Message: before[1:2], Tick: before[2:5], Input: before[5:]},
		api.Code{Init: values, Start: after[:1], Message: after[1:2], Tick: after[2:5], Input: after[5:]})
}

// wantTokens wants what the tokens of a text say.
func wantTokens(t *testing.T, text string) api.Errno {
	t.Helper()
	p := parse(t, text)
	values, uses, e := byTokens(t, text)
	if e != api.OK {
		wantError(t, p, e)
		return e
	}
	c, got := resolve.Resolve(p)
	if got != api.OK || !same(c.Init, values) || !same(usesOf(c), uses) {
		t.Errorf("Resolve(%q) = %+v, %d, want %v, %v", text, c, got, values, uses)
	}
	wantBare := bare(api.Code{Init: values, Start: p.Start, Message: p.Message, Tick: p.Tick, Input: p.Input})
	if !same(bare(c), wantBare) {
		t.Errorf("Resolve(%q) = %+v: more than places has changed", text, c)
	}
	return e
}

// P3.2: programs with few errors and with many.
func TestP3_2Any(t *testing.T) {
	met := map[api.Errno]int{}
	for seed := range int64(4) {
		w := &writer{Rand: rand.New(rand.NewSource(seed)), wrong: []int{0, 1, 4, 15}[seed]}
		for range 1500 {
			text := w.program()
			if len(text) <= api.MaxText {
				met[wantTokens(t, text)]++
			}
		}
	}
	for _, e := range []api.Errno{api.OK, api.ErrTooMany, api.ErrName, api.ErrShape} {
		if met[e] < 50 {
			t.Errorf("only %d programs with the error %d", met[e], e)
		}
	}
}

// many returns as many declarations as are asked for, all with this Size.
func many(n, size int) (l []api.Var) {
	for i := range n {
		l = append(l, api.Var{Name: "v" + strconv.Itoa(i), Size: size})
	}
	return l
}

// P3.2: errors of declarations.
func TestP3_2Declarations(t *testing.T) {
	wantError(t, api.Program{Vars: many(api.MaxVars+1, 0)}, api.ErrTooMany)
	wantError(t, api.Program{Vars: many(1000, 0)}, api.ErrTooMany)
	wantError(t, api.Program{Vars: many(1, api.MaxCells+1)}, api.ErrTooMany)
	wantError(t, api.Program{Vars: append(many(1, api.MaxCells), api.Var{Name: "x"})}, api.ErrTooMany)
	wantError(t, api.Program{Vars: many(api.MaxVars-5, 3)}, api.ErrTooMany)
	for _, great := range []int{math.MaxInt, math.MaxInt - 5, 1 << 62, 1 << 32, 1 << 31} {
		for n := 1; n <= api.MaxVars; n++ {
			wantError(t, api.Program{Vars: many(n, great)}, api.ErrTooMany)
		}
	}
	for i := range api.MaxVars {
		for j := range i {
			twice := api.Program{Vars: many(api.MaxVars, 0)}
			twice.Vars[i].Name = twice.Vars[j].Name
			wantError(t, twice, api.ErrName)
			twice.Vars[i].Size = 2
			wantError(t, twice, api.ErrName)
		}
	}
	for _, text := range []string{"var x; var X; var x1; var _x; var xx;", "array a[1]; array A[1];"} {
		if _, e := resolve.Resolve(parse(t, text)); e != api.OK {
			t.Errorf("Resolve(%q): %d", text, e)
		}
	}
}

// P3.2: a name that is not declared, or not what is meant, wherever it stands.
func TestP3_2Uses(t *testing.T) {
	for _, s := range []string{"NAME = 1;", "x = NAME;", "x = a[NAME];", "x = -NAME;", "x = !(1 + NAME);", "x = NAME * 2;", "a[NAME] = 1;", "a[0] = NAME;",
		"if NAME { }", "if 1 { output NAME; }", "if 1 { } else { output NAME; }", "while NAME { }", "while 0 { send 1, NAME; }", "send NAME, 1;", "send 1, a[NAME] + 1;", "output NAME;",
		"NAME[0] = 1;", "output NAME[0];", "output a[NAME[0]];", "a[NAME[1]] = 0;", "send NAME[0], NAME[0];"} {
		right, wrong := "x", "a"
		if strings.Contains(s, "NAME[") {
			right, wrong = wrong, right
		}
		for _, word := range []string{"start", "message", "tick", "input"} {
			text := func(name string) string {
				return "array a[4]; var x; on " + word + " { output 1; " + strings.ReplaceAll(s, "NAME", name) + " output 2; }"
			}
			if e := wantTokens(t, text(right)); e != api.OK {
				t.Errorf("%q: %d", text(right), e)
			}
			wantError(t, parse(t, text(wrong)), api.ErrShape)
			for _, name := range []string{"b", "A", "X", "xx", "_"} {
				wantError(t, parse(t, text(name)), api.ErrName)
			}
		}
	}
	wantError(t, parse(t, "on tick { output x; }"), api.ErrName)
}

// P3.2: of two errors the one that is listed first, wherever they stand.
func TestP3_2Order(t *testing.T) {
	deep := api.Expr{Op: api.Self}
	for range api.MaxDepth {
		deep = api.Expr{Op: api.Neg, Args: []api.Expr{deep}}
	}
	unknown, misused := parse(t, "on tick { q = 1; }").Tick, parse(t, "on tick { v0[0] = 1; }").Tick
	faults := []struct {
		e     api.Errno
		spoil func(p *api.Program)
	}{
		{api.ErrTooDeep, func(p *api.Program) { p.Input = append(p.Input, api.Stmt{Kind: api.Out, Value: deep}) }},
		{api.ErrShape, func(p *api.Program) { p.Input = append(p.Input, api.Stmt{Kind: api.Out}) }},
		{api.ErrTooMany, func(p *api.Program) {
			for _, v := range many(api.MaxVars, 0) {
				p.Vars = append(p.Vars, api.Var{Name: "more" + v.Name})
			}
		}},
		{api.ErrName, func(p *api.Program) { p.Vars = append(p.Vars, p.Vars[1]) }},
		{api.ErrTooMany, func(p *api.Program) { p.Vars = append([]api.Var{{Name: "great", Size: math.MaxInt}}, p.Vars...) }},
		{api.ErrName, func(p *api.Program) { p.Input = append(p.Input, unknown...) }},
		{api.ErrShape, func(p *api.Program) { p.Start = append(misused, p.Start...) }},
	}
	for i, first := range faults {
		alone := api.Program{Vars: many(3, 0)}
		first.spoil(&alone)
		wantError(t, alone, first.e)
		for _, second := range faults[i+1:] {
			p := api.Program{Vars: many(3, 0)}
			second.spoil(&p)
			first.spoil(&p)
			wantError(t, p, first.e)
			p = api.Program{Vars: many(3, 0)}
			first.spoil(&p)
			second.spoil(&p)
			wantError(t, p, first.e)
		}
	}
	for _, text := range []string{
		"var x; array a[2]; on start { a = b; }",
		"var x; array a[2]; on start { a[x[0]] = 1; } on input { while 1 { if 1 { } else { output q[a]; } } }",
		"var x; array a[2]; on start { output -c; x = a; }",
		"var x; on tick { x[q] = x; }",
	} {
		wantError(t, parse(t, text), api.ErrName)
	}
}

// P3.2: whatever syntax.Check finds comes first; a program with places is one of these.
func TestP3_2Check(t *testing.T) {
	for _, p := range []api.Program{
		{Vars: []api.Var{{Name: "if"}}},
		{Vars: []api.Var{{Name: "a", Size: -1}}},
		{Vars: []api.Var{{Name: "a", Size: 2, Init: 1}}},
		{Vars: []api.Var{{Name: "x", Init: math.MinInt}}},
		{Vars: []api.Var{{Name: "x"}}, Start: []api.Stmt{{Kind: api.Assign, Name: "x", Slot: 1, Value: api.Expr{Op: api.Self}}}},
		{Vars: []api.Var{{Name: "x"}}, Tick: []api.Stmt{{Kind: api.Out, Value: api.Expr{Op: api.Scalar, Name: "x", Size: 1}}}},
		{Message: []api.Stmt{{}}},
		{Message: []api.Stmt{{Kind: 7, Value: api.Expr{Op: api.Self}}}},
		{Input: []api.Stmt{{Kind: api.Out, Value: api.Expr{Op: api.Add, Args: []api.Expr{{Op: api.Self}}}}}},
	} {
		if e := syntax.Check(p); e != api.ErrShape {
			t.Errorf("Check(%+v) = %d", p, e)
		}
		wantError(t, p, api.ErrShape)
		p.Vars = append(p.Vars, many(40, 9)...)
		wantError(t, p, api.ErrShape)
	}
}

// smear overwrites code with everything in it, up to the capacities.
func smear(c api.Code) {
	c.Init = c.Init[:cap(c.Init)]
	for i := range c.Init {
		c.Init[i] = 77
	}
	for _, l := range [][]api.Stmt{c.Start, c.Message, c.Tick, c.Input} {
		smearStmts(l)
	}
}

func smearStmts(l []api.Stmt) {
	for i, s := range l {
		smearStmts(s.Body)
		smearStmts(s.Else)
		smearExprs(s.Place.Args)
		smearExprs(s.Value.Args)
		l[i] = api.Stmt{Kind: 77}
	}
	clear(l[len(l):cap(l)])
}

func smearExprs(l []api.Expr) {
	for i, e := range l {
		smearExprs(e.Args)
		l[i] = api.Expr{Op: 77}
	}
	clear(l[len(l):cap(l)])
}

// P3.2 with R2: neither a program nor what lies behind its lists changes, and code shares no memory with it, nor one handler with another.
func TestP3_2Pure(t *testing.T) {
	text := "var x = 3; array a[2]; on start { x = a[x] + -x; a[0] = a[a[1]]; if x { output x; } else { while x { send x, a[0]; } } }"
	vars := append(parse(t, text).Vars, api.Var{Name: "spare", Size: -1})
	l := append(parse(t, text).Start, api.Stmt{Kind: 99})
	p := api.Program{Vars: vars[:2], Start: l[:3], Message: l[:3], Tick: l[:2], Input: l[1:3]}
	before := fmt.Sprintf("%+v %+v", vars, l)
	c, e := resolve.Resolve(p)
	if e != api.OK {
		t.Fatalf("Resolve(%q): %d", text, e)
	}
	again := fmt.Sprintf("%+v", c)
	for _, handler := range []*[]api.Stmt{&c.Start, &c.Message, &c.Tick, &c.Input} {
		smear(api.Code{Init: c.Init, Start: *handler})
		*handler = nil
		if rest := fmt.Sprintf("%+v", api.Code{Start: c.Start, Message: c.Message, Tick: c.Tick, Input: c.Input}); strings.Contains(rest, "77") {
			t.Errorf("handlers share memory: %s", rest)
		}
	}
	resolve.Lookup(vars[:2], "spare")
	if after := fmt.Sprintf("%+v %+v", vars, l); after != before {
		t.Errorf("the program is now %s, and was %s", after, before)
	}
	if c, _ := resolve.Resolve(p); fmt.Sprintf("%+v", c) != again {
		t.Errorf("Resolve = %+v, and was %s", c, again)
	}
	wantLookup(t, vars[:2], "spare", 0, 0, false)
}

// P3.3: the cells of different names are different ones, and all of them exist.
func TestP3_3Cells(t *testing.T) {
	w := &writer{Rand: rand.New(rand.NewSource(5))}
	for range 1000 {
		c, e := resolve.Resolve(parse(t, w.program()))
		owners := make([]string, len(c.Init))
		for _, u := range usesOf(c) {
			if u.slot < 0 || u.slot >= len(c.Init) || u.slot+u.size > len(c.Init) || u.array != (u.size > 0) {
				t.Fatalf("%+v with %d cells", u, len(c.Init))
			}
			for i := range max(u.size, 1) {
				if o := owners[u.slot+i]; o != "" && o != u.name {
					t.Fatalf("%s and %s have the cell %d", o, u.name, u.slot+i)
				}
				owners[u.slot+i] = u.name
			}
		}
		if e != api.OK && e != api.ErrTooMany {
			t.Errorf("a program without errors: %d", e)
		}
	}
}

// P3.3: other names make other names, in code and in errors, and nothing else.
func TestP3_3Names(t *testing.T) {
	w := &writer{Rand: rand.New(rand.NewSource(6))}
	for i := range 2000 {
		w.wrong = i % 4
		text := w.program()
		// The names of the writer are n and a number; the new ones are not in the same order.
		rename := func(s string) string {
			for k := range 20 {
				s = strings.ReplaceAll(s, fmt.Sprintf("n%d", 19-k), "Q_"+string(rune('a'+k*7%20)))
			}
			return s
		}
		c, e := resolve.Resolve(parse(t, text))
		d, f := resolve.Resolve(parse(t, rename(text)))
		if e != f || rename(fmt.Sprintf("%+v", c)) != fmt.Sprintf("%+v", d) {
			t.Fatalf("%q: %+v, %d; with other names %+v, %d", text, c, e, d, f)
		}
	}
}

func ExampleResolve() {
	p, _, _ := syntax.Parse("var x = 3; array a[2]; var y; on tick { y = a[x]; }")
	c, e := resolve.Resolve(p)
	fmt.Println(c.Init, e == api.OK)
	fmt.Println(c.Tick[0].Slot, c.Tick[0].Value.Slot, c.Tick[0].Value.Size, c.Tick[0].Value.Args[0].Slot)
	slot, size, ok := resolve.Lookup(p.Vars, "a")
	fmt.Println(slot, size, ok)
	// Output:
	// [3 0 0 0] true
	// 3 1 2 0
	// 1 2 true
}
