package syntax_test

import (
	"math"
	"slices"
	"strings"
	"testing"

	"rollbacknet/api"
	"rollbacknet/syntax"
	"rollbacknet/token"
)

func wantText(t *testing.T, p api.Program, want string) {
	t.Helper()
	text, e := syntax.Format(p)
	if text != want || e != api.OK {
		t.Errorf("Format(%+v) = %q, %d, want %q", p, text, e, want)
	}
}

// P2.5: declarations.
func TestP2_5Declarations(t *testing.T) {
	wantText(t, api.Program{}, "")
	wantText(t, api.Program{Vars: []api.Var{{Name: "x"}, {Name: "y", Init: 5}, {Name: "y", Init: -5}, {Name: "a", Size: 4}, {Name: "x"}}},
		"var x;\nvar y = 5;\nvar y = -5;\narray a[4];\nvar x;\n")
	wantText(t, api.Program{Vars: []api.Var{{Name: "x", Init: math.MaxInt64}, {Name: "x", Init: -math.MaxInt64}, {Name: "a", Size: math.MaxInt64}}},
		"var x = 9223372036854775807;\nvar x = -9223372036854775807;\narray a[9223372036854775807];\n")
}

// P2.5: the order of the handlers, and ones without statements.
func TestP2_5Handlers(t *testing.T) {
	one := func(v int) []api.Stmt { return []api.Stmt{output(number(v))} }
	wantText(t, api.Program{Input: one(4), Tick: one(3), Message: one(2), Start: one(1), Vars: []api.Var{{Name: "x"}}},
		"var x;\non start {\n  output 1;\n}\non message {\n  output 2;\n}\non tick {\n  output 3;\n}\non input {\n  output 4;\n}\n")
	wantText(t, api.Program{Input: one(4), Tick: []api.Stmt{}, Message: one(2)}, "on message {\n  output 2;\n}\non input {\n  output 4;\n}\n")
}

// P2.5: statements, and how far they are indented.
func TestP2_5Statements(t *testing.T) {
	one, x := number(1), scalar("x")
	simple := []api.Stmt{
		assign("x", one),
		{Kind: api.Store, Name: "a", Place: number(0), Value: one},
		{Kind: api.Put, Place: one, Value: number(2)},
		output(one),
	}
	lines := []string{"x = 1;", "a[0] = 1;", "send 1, 2;", "output 1;"}
	text := func(indent string) string { return indent + strings.Join(lines, "\n"+indent) + "\n" }
	wantText(t, onTick(simple...), "on tick {\n"+text("  ")+"}\n")
	for _, c := range []struct {
		s    api.Stmt
		want string
	}{
		{api.Stmt{Kind: api.If, Value: x}, "  if x {\n  }\n"},
		{api.Stmt{Kind: api.If, Value: x, Body: []api.Stmt{}, Else: []api.Stmt{}}, "  if x {\n  }\n"},
		{api.Stmt{Kind: api.If, Value: x, Body: simple}, "  if x {\n" + text("    ") + "  }\n"},
		{api.Stmt{Kind: api.If, Value: x, Else: simple}, "  if x {\n  } else {\n" + text("    ") + "  }\n"},
		{api.Stmt{Kind: api.If, Value: x, Body: simple, Else: simple}, "  if x {\n" + text("    ") + "  } else {\n" + text("    ") + "  }\n"},
		{api.Stmt{Kind: api.While, Value: x}, "  while x {\n  }\n"},
		{api.Stmt{Kind: api.While, Value: x, Body: simple}, "  while x {\n" + text("    ") + "  }\n"},
		{api.Stmt{Kind: api.If, Value: x, Else: []api.Stmt{{Kind: api.If, Value: one, Body: simple}}},
			"  if x {\n  } else {\n    if 1 {\n" + text("      ") + "    }\n  }\n"},
		{api.Stmt{Kind: api.While, Value: x, Body: []api.Stmt{{Kind: api.While, Value: one, Body: []api.Stmt{{Kind: api.If, Value: one, Body: simple, Else: simple}}}}},
			"  while x {\n    while 1 {\n      if 1 {\n" + text("        ") + "      } else {\n" + text("        ") + "      }\n    }\n  }\n"},
	} {
		wantText(t, onTick(c.s), "on tick {\n"+c.want+"}\n")
		wantText(t, onTick(c.s, simple[0], c.s), "on tick {\n"+c.want+"  x = 1;\n"+c.want+"}\n")
	}
}

// P2.5: expressions, and which operands are enclosed.
func TestP2_5Exprs(t *testing.T) {
	wantValue := func(e api.Expr, want string) {
		t.Helper()
		wantText(t, onTick(assign("x", e)), "on tick {\n  x = "+want+";\n}\n")
	}
	wantValue(number(math.MaxInt64), "9223372036854775807")
	type operand struct {
		e    api.Expr
		text string
	}
	operands := []operand{{number(0), "0"}, {number(12), "12"}, {scalar("x"), "x"}, {element("a", number(1)), "a[1]"}, {element("a", element("a", scalar("x"))), "a[a[x]]"}}
	for _, w := range words {
		operands = append(operands, operand{api.Expr{Op: w.op}, w.text})
	}
	var applied []operand
	for _, o := range operands {
		wantValue(o.e, o.text)
		for _, s := range prefix {
			applied = append(applied, operand{apply(s.op, o.e), s.text + o.text})
		}
		for _, s := range binary {
			applied = append(applied, operand{apply(s.op, o.e, number(3)), o.text + " " + s.text + " 3"})
			applied = append(applied, operand{apply(s.op, scalar("y"), o.e), "y " + s.text + " " + o.text})
		}
	}
	for _, o := range applied {
		wantValue(o.e, o.text)
		wantValue(element("a", o.e), "a["+o.text+"]")
		for _, s := range prefix {
			wantValue(apply(s.op, o.e), s.text+"("+o.text+")")
		}
		for _, s := range binary {
			wantValue(apply(s.op, o.e, number(3)), "("+o.text+") "+s.text+" 3")
			wantValue(apply(s.op, scalar("y"), o.e), "y "+s.text+" ("+o.text+")")
		}
		wantText(t, onTick(api.Stmt{Kind: api.Put, Place: o.e, Value: o.e}, api.Stmt{Kind: api.If, Value: o.e}),
			"on tick {\n  send "+o.text+", "+o.text+";\n  if "+o.text+" {\n  }\n}\n")
		wantText(t, onTick(api.Stmt{Kind: api.Store, Name: "a", Place: o.e, Value: o.e}, output(o.e)),
			"on tick {\n  a["+o.text+"] = "+o.text+";\n  output "+o.text+";\n}\n")
	}
}

// P2.5: texts with as many bytes as they may have, and with one more.
func TestP2_5TooLong(t *testing.T) {
	// Lines of 8 bytes, which are as many as the last one makes them.
	var p api.Program
	for range api.MaxText / 8 {
		p.Vars = append(p.Vars, api.Var{Name: "ab"})
	}
	for n, want := range map[int]api.Errno{2: api.OK, 3: api.ErrTooLong, 4: api.ErrTooLong} {
		p.Vars[api.MaxText/8-1].Name = strings.Repeat("n", n)
		text, e := syntax.Format(p)
		if e != want || e == api.OK && len(text) != api.MaxText || e != api.OK && text != "" {
			t.Errorf("Format = %d bytes, %d, want %d", len(text), e, want)
		}
		if c := syntax.Check(p); c != api.OK {
			t.Errorf("Check = %d", c)
		}
	}
	// The last line brings it beyond the limit, or is the only one.
	long := scalar(strings.Repeat("n", api.MaxName))
	for range 9 {
		long = apply(api.Add, long, long)
	}
	for _, q := range []api.Program{onTick(assign("x", long)), onTick(slices.Repeat([]api.Stmt{assign("x", number(1))}, 100000)...)} {
		if text, e := syntax.Format(q); text != "" || e != api.ErrTooLong {
			t.Errorf("Format = %d bytes, %d", len(text), e)
		}
	}
	p.Vars = append(p.Vars, api.Var{})
	wantCheck(t, p, api.ErrShape)
}

// wantBack wants that Format and Parse undo each other, and reports whether the text is not too long.
func wantBack(t *testing.T, p api.Program) bool {
	t.Helper()
	text, e := syntax.Format(p)
	if e == api.ErrTooLong {
		return false
	}
	if e != api.OK {
		t.Fatalf("Format(%+v) = %q, %d", p, text, e)
	}
	wantProgram(t, text, p)
	return true
}

// P2.6: Parse undoes Format.
func TestP2_6Back(t *testing.T) {
	m := newMaker(6)
	back := 0
	for range 5000 {
		p := m.program()
		if byLevels(p) <= api.MaxDepth && wantBack(t, p) {
			back++
		}
	}
	if back < 2000 {
		t.Errorf("only %d programs", back)
	}
	for _, e := range exprs() {
		for _, f := range exprs() {
			wantBack(t, onTick(assign("x", e), output(apply(api.Not, f)), assign("x", apply(api.Sub, e, f)), assign("y", element("a", f))))
		}
	}
	wantBack(t, onTick(assign("x", negated(14))))
}

// P2.6: Format finds no error in what Parse returns, whatever the text was.
func TestP2_6Parsed(t *testing.T) {
	m := newMaker(7)
	parsed := 0
	for range 3000 {
		l, _, e := token.Scan(showProgram(m.program()))
		if e != api.OK || len(l) == 0 {
			continue
		}
		if p, _, e := syntax.Parse(token.Print(changed(m, l))); e == api.OK && wantBack(t, p) {
			parsed++
		}
	}
	if parsed < 100 {
		t.Errorf("only %d programs", parsed)
	}
	// The text of Format is longer than the one that was parsed.
	p, _, e := syntax.Parse("on tick{" + strings.Repeat("x=1;", 1000) + "}")
	if e != api.OK || wantBack(t, p) {
		t.Errorf("%d statements, %d", len(p.Tick), e)
	}
}
