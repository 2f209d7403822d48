package syntax_test

import (
	"fmt"
	"math"
	"math/rand"
	"slices"
	"strconv"
	"strings"

	"rollbacknet/api"
)

// sign is an operator with one or two operands, and how it binds, as the grammar of P2.1 says it.
type sign struct {
	text  string
	op    int
	level int
}

var binary = []sign{
	{"||", api.Or, 1}, {"&&", api.And, 2},
	{"==", api.Same, 3}, {"!=", api.Other, 3}, {"<", api.Less, 3}, {"<=", api.Most, 3}, {">", api.More, 3}, {">=", api.Least, 3},
	{"+", api.Add, 4}, {"-", api.Sub, 4},
	{"*", api.Mul, 5}, {"/", api.Div, 5}, {"%", api.Rem, 5},
}

var prefix = []sign{{"-", api.Neg, 6}, {"!", api.Not, 6}}

var words = []sign{{"self", api.Self, 7}, {"procs", api.Procs, 7}, {"from", api.From, 7}, {"value", api.Value, 7}}

func number(v int) api.Expr { return api.Expr{Op: api.Const, Value: v} }

func scalar(name string) api.Expr { return api.Expr{Op: api.Scalar, Name: name} }

func apply(op int, args ...api.Expr) api.Expr { return api.Expr{Op: op, Args: args} }

func element(name string, i api.Expr) api.Expr {
	return api.Expr{Op: api.Index, Name: name, Args: []api.Expr{i}}
}

func assign(name string, v api.Expr) api.Stmt {
	return api.Stmt{Kind: api.Assign, Name: name, Value: v}
}

func output(v api.Expr) api.Stmt { return api.Stmt{Kind: api.Out, Value: v} }

// onTick is a program with this handler alone.
func onTick(l ...api.Stmt) api.Program { return api.Program{Tick: l} }

// negated is a number with this many signs ahead of it: its depth is one more.
func negated(n int) api.Expr {
	e := number(1)
	for range n {
		e = apply(api.Neg, e)
	}
	return e
}

// same compares values; a nil list and an empty one print alike.
func same(a, b any) bool { return fmt.Sprintf("%+v", a) == fmt.Sprintf("%+v", b) }

// maker makes things at random.
type maker struct{ *rand.Rand }

func newMaker(seed int64) maker { return maker{rand.New(rand.NewSource(seed))} }

func pick[T any](m maker, l []T) T { return l[m.Intn(len(l))] }

func (m maker) name() string {
	return pick(m, []string{"x", "y", "_", "Var", "ifs", "a1", "on_", strings.Repeat("n", api.MaxName)})
}

func (m maker) number() int {
	return pick(m, []int{0, 1, 2, 9, 10, 4711, math.MaxInt64 - 1, math.MaxInt64})
}

// expr returns an expression that is at most this deep.
func (m maker) expr(deep int) api.Expr {
	if deep <= 1 || m.Intn(4) == 0 {
		switch m.Intn(3) {
		case 0:
			return number(m.number())
		case 1:
			return scalar(m.name())
		}
		return api.Expr{Op: pick(m, words).op}
	}
	switch m.Intn(5) {
	case 0:
		return element(m.name(), m.expr(deep-1))
	case 1:
		return apply(pick(m, prefix).op, m.expr(deep-1))
	}
	return apply(pick(m, binary).op, m.expr(deep-1), m.expr(deep-1))
}

// stmts returns a few statements that are at most this deep (at least 2).
func (m maker) stmts(deep int) []api.Stmt {
	var l []api.Stmt
	if deep < 2 {
		return l
	}
	for range m.Intn(4) {
		s := api.Stmt{Kind: 1 + m.Intn(6), Value: m.expr(min(deep-1, 4))}
		switch s.Kind {
		case api.Assign:
			s.Name = m.name()
		case api.Store:
			s.Name, s.Place = m.name(), m.expr(min(deep-1, 3))
		case api.If:
			s.Body, s.Else = m.stmts(deep-1), m.stmts(deep-1)
		case api.While:
			s.Body = m.stmts(deep - 1)
		case api.Put:
			s.Place = m.expr(min(deep-1, 3))
		}
		l = append(l, s)
	}
	return l
}

// program returns a program as Parse could make it.
func (m maker) program() api.Program {
	var p api.Program
	for range m.Intn(4) {
		v := api.Var{Name: m.name()}
		switch m.Intn(4) {
		case 0:
			v.Size = 1 + m.Intn(40)
		case 1:
			v.Init = m.number()
		case 2:
			v.Init = -m.number()
		}
		p.Vars = append(p.Vars, v)
	}
	for _, l := range []*[]api.Stmt{&p.Start, &p.Message, &p.Tick, &p.Input} {
		if m.Intn(2) == 0 {
			*l = m.stmts(2 + m.Intn(4))
		}
	}
	return p
}

// rubbish returns a program with anything in its fields.
func (m maker) rubbish() api.Program {
	var p api.Program
	for range m.Intn(3) {
		p.Vars = append(p.Vars, api.Var{Name: m.anyName(), Size: m.anyNumber(), Init: m.anyNumber()})
	}
	for _, l := range []*[]api.Stmt{&p.Start, &p.Message, &p.Tick, &p.Input} {
		*l = m.anyStmts(m.Intn(5))
	}
	return p
}

func (m maker) anyName() string {
	return pick(m, []string{"", "", "x", "if", "1", "a b", "\xff", strings.Repeat("n", api.MaxName+1)})
}

func (m maker) anyNumber() int {
	return pick(m, []int{0, 0, 0, 1, -1, 24, math.MaxInt64, math.MinInt64})
}

func (m maker) anyExpr(deep int) api.Expr {
	e := api.Expr{Op: m.Intn(25) - 1, Value: m.anyNumber(), Name: m.anyName(), Slot: m.anyNumber(), Size: m.anyNumber()}
	if deep > 1 {
		for range m.Intn(4) {
			e.Args = append(e.Args, m.anyExpr(deep-1))
		}
	}
	return e
}

func (m maker) anyStmts(deep int) []api.Stmt {
	var l []api.Stmt
	if deep < 1 {
		return l
	}
	for range m.Intn(4) {
		l = append(l, api.Stmt{
			Kind: m.Intn(9) - 1, Name: m.anyName(), Slot: m.anyNumber(), Size: m.anyNumber(),
			Place: m.anyExpr(m.Intn(4)), Value: m.anyExpr(m.Intn(4)),
			Body: m.anyStmts(deep - 1), Else: m.anyStmts(deep - 1),
		})
	}
	return l
}

// show returns the text of an expression with no more parentheses than it needs where an expression of this level is asked for.
func show(e api.Expr, level int) string {
	for _, s := range words {
		if s.op == e.Op {
			return s.text
		}
	}
	text, own := "", 0
	for _, s := range prefix {
		if s.op == e.Op {
			text, own = s.text+show(e.Args[0], s.level), s.level
		}
	}
	for _, s := range binary {
		if s.op == e.Op {
			text, own = show(e.Args[0], s.level)+s.text+show(e.Args[1], s.level+1), s.level
		}
	}
	switch {
	case e.Op == api.Const:
		return strconv.Itoa(e.Value)
	case e.Op == api.Scalar:
		return e.Name
	case e.Op == api.Index:
		return e.Name + "[" + show(e.Args[0], 1) + "]"
	case own < level:
		return "(" + text + ")"
	}
	return text
}

// showBlock returns the text of statements in braces.
func showBlock(l []api.Stmt) string {
	text := "{"
	for _, s := range l {
		place, value := "", show(s.Value, 1)
		if s.Place.Op != 0 {
			place = show(s.Place, 1)
		}
		switch s.Kind {
		case api.Assign:
			text += s.Name + "=" + value + ";"
		case api.Store:
			text += s.Name + "[" + place + "]=" + value + ";"
		case api.If:
			text += "if " + value + showBlock(s.Body)
			if len(s.Else) > 0 {
				text += "else" + showBlock(s.Else)
			}
		case api.While:
			text += "while " + value + showBlock(s.Body)
		case api.Put:
			text += "send " + place + "," + value + ";"
		case api.Out:
			text += "output " + value + ";"
		}
	}
	return text + "}"
}

// showProgram returns a text of a program, without blanks that it does not need.
func showProgram(p api.Program) string {
	text := ""
	for _, v := range p.Vars {
		switch {
		case v.Size > 0:
			text += "array " + v.Name + "[" + strconv.Itoa(v.Size) + "];"
		default:
			text += "var " + v.Name + "=" + strconv.Itoa(v.Init) + ";"
		}
	}
	// Another order than the one of Format.
	text += "on input" + showBlock(p.Input) + "on tick" + showBlock(p.Tick)
	return text + "on message" + showBlock(p.Message) + "on start" + showBlock(p.Start)
}

// cloneStmts copies statements with everything in them, and leaves spare capacity behind each list.
func cloneStmts(l []api.Stmt) []api.Stmt {
	out := slices.Grow([]api.Stmt(nil), len(l)+2)
	for _, s := range l {
		s.Place, s.Value = cloneExpr(s.Place), cloneExpr(s.Value)
		s.Body, s.Else = cloneStmts(s.Body), cloneStmts(s.Else)
		out = append(out, s)
	}
	return out
}

func cloneExpr(e api.Expr) api.Expr {
	out := slices.Grow([]api.Expr(nil), len(e.Args)+2)
	for _, a := range e.Args {
		out = append(out, cloneExpr(a))
	}
	e.Args = out
	return e
}

func clone(p api.Program) api.Program {
	p.Vars = append(slices.Grow([]api.Var(nil), len(p.Vars)+2), p.Vars...)
	p.Start, p.Message, p.Tick, p.Input = cloneStmts(p.Start), cloneStmts(p.Message), cloneStmts(p.Tick), cloneStmts(p.Input)
	return p
}
