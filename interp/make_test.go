package interp_test

import (
	"fmt"
	"math"
	"math/big"
	"math/rand"
	"slices"
	"strconv"
	"testing"

	"rollbacknet/api"
	"rollbacknet/eval"
	"rollbacknet/resolve"
	"rollbacknet/syntax"
)

const (
	least    = math.MinInt64
	greatest = math.MaxInt64
)

// env is what the handlers of most tests can read.
var env = api.Env{Self: 1, Procs: 4, From: 2, Value: -4}

// tick returns the handler with the statements of a text. The variables x, y and z are the cells 0, 1 and 5, and the array a the cells 2 to 4.
func tick(t *testing.T, text string) []api.Stmt {
	t.Helper()
	p, at, e := syntax.Parse("var x; var y; array a[3]; var z; on tick { " + text + " }")
	c, wrong := resolve.Resolve(p)
	if e != api.OK || wrong != api.OK {
		t.Fatalf("%q: %d at %d, %d", text, e, at, wrong)
	}
	return c.Tick
}

func number(v int) api.Expr { return api.Expr{Op: api.Const, Value: v} }

func scalar(slot int) api.Expr { return api.Expr{Op: api.Scalar, Slot: slot} }

func apply(op int, args ...api.Expr) api.Expr { return api.Expr{Op: op, Args: args} }

func assign(slot int, value api.Expr) api.Stmt {
	return api.Stmt{Kind: api.Assign, Slot: slot, Value: value}
}

// increase adds a number to the cell with this number.
func increase(slot, by int) api.Stmt {
	return assign(slot, apply(api.Add, scalar(slot), number(by)))
}

func store(slot, size int, place, value api.Expr) api.Stmt {
	return api.Stmt{Kind: api.Store, Slot: slot, Size: size, Place: place, Value: value}
}

func when(value api.Expr, body, other []api.Stmt) api.Stmt {
	return api.Stmt{Kind: api.If, Value: value, Body: body, Else: other}
}

func loop(value api.Expr, body ...api.Stmt) api.Stmt {
	return api.Stmt{Kind: api.While, Value: value, Body: body}
}

func put(to, value api.Expr) api.Stmt {
	return api.Stmt{Kind: api.Put, Place: to, Value: value}
}

func output(value api.Expr) api.Stmt { return api.Stmt{Kind: api.Out, Value: value} }

// times repeats a statement.
func times(n int, s api.Stmt) []api.Stmt { return slices.Repeat([]api.Stmt{s}, n) }

// outcome is what Run returns.
type outcome struct {
	cells   []int
	effects []api.Effect
	used    int
}

func (o outcome) String() string { return fmt.Sprint(o.cells, o.effects, o.used) }

// byRules is Run by the words of P5.1 and P5.2, without any nesting: what is still to be executed is one list, to which an If or a While adds its statements, and a While itself once more. Cells are found by numbers of any length. The last result is the number of effects for which there was no place.
func byRules(body []api.Stmt, cells []int, v api.Env) (outcome, int) {
	o := outcome{cells: append([]int{}, cells...)}
	lost := 0
	set := func(number string, value int) {
		for i := range o.cells {
			if strconv.Itoa(i) == number {
				o.cells[i] = value
			}
		}
	}
	for rest := body; len(rest) > 0 && o.used < 400; {
		s := rest[0]
		rest = rest[1:]
		o.used++
		place, value := eval.Value(s.Place, o.cells, v), eval.Value(s.Value, o.cells, v)
		is := map[string]bool{
			"assign": s.Kind == 1, "store": s.Kind == 2 && 0 <= place && place < s.Size,
			"body": s.Kind == 3 && value != 0, "else": s.Kind == 3 && value == 0, "again": s.Kind == 4 && value != 0,
			"sending": s.Kind == 5 && 0 <= place && place < v.Procs && place != v.Self, "showing": s.Kind == 6,
		}
		switch {
		case is["assign"]:
			set(strconv.Itoa(s.Slot), value)
		case is["store"]:
			set(new(big.Int).Add(big.NewInt(int64(s.Slot)), big.NewInt(int64(place))).String(), value)
		case is["body"]:
			rest = slices.Concat(s.Body, rest)
		case is["else"]:
			rest = slices.Concat(s.Else, rest)
		case is["again"]:
			rest = slices.Concat(s.Body, []api.Stmt{s}, rest)
		case (is["sending"] || is["showing"]) && len(o.effects) == 8:
			lost++
		case is["sending"]:
			o.effects = append(o.effects, api.Effect{Kind: 1, To: place, Value: value})
		case is["showing"]:
			o.effects = append(o.effects, api.Effect{Kind: 2, To: 0, Value: value})
		}
	}
	return o, lost
}

// copied copies statements, with a spare one behind each list.
func copied(l []api.Stmt) []api.Stmt {
	c := make([]api.Stmt, 0, len(l)+1)
	for _, s := range l {
		s.Body, s.Else = copied(s.Body), copied(s.Else)
		s.Place, s.Value = copiedExpr(s.Place), copiedExpr(s.Value)
		c = append(c, s)
	}
	return c
}

func copiedExpr(e api.Expr) api.Expr {
	args := make([]api.Expr, 0, len(e.Args)+1)
	for _, a := range e.Args {
		args = append(args, copiedExpr(a))
	}
	e.Args = args
	return e
}

// show writes all of some statements, with what lies behind their lists.
func show(l []api.Stmt) string {
	text := fmt.Sprint(len(l), "{")
	for _, s := range l[:cap(l)] {
		text += fmt.Sprint(s.Kind, s.Name, s.Slot, s.Size, showExpr(s.Place), showExpr(s.Value), show(s.Body), show(s.Else), ";")
	}
	return text + "}"
}

func showExpr(e api.Expr) string {
	text := fmt.Sprint(e.Op, e.Value, e.Name, e.Slot, e.Size, len(e.Args), "(")
	for _, a := range e.Args[:cap(e.Args)] {
		text += showExpr(a)
	}
	return text + ")"
}

// maker makes handlers at random.
type maker struct{ *rand.Rand }

func newMaker(seed int64) maker { return maker{rand.New(rand.NewSource(seed))} }

// value returns a small number, mostly, or one with which a handler can go wrong.
func (m maker) value() int {
	odd := []int{least, least + 1, -1 << 32, -1, 4, 5, 1 << 32, 1<<62 + 1, greatest - 1, greatest}
	if m.Intn(6) == 0 {
		return odd[m.Intn(len(odd))]
	}
	return m.Intn(7) - 1
}

func (m maker) cells() []int {
	l := make([]int, m.Intn(7))
	for i := range l {
		l[i] = m.value()
	}
	return l
}

func (m maker) env() api.Env {
	if m.Intn(4) == 0 {
		return api.Env{Self: m.value(), Procs: m.value(), From: m.value(), Value: m.value()}
	}
	procs := 1 + m.Intn(5)
	return api.Env{Self: m.Intn(procs), Procs: procs, From: m.Intn(procs), Value: m.value()}
}

// expr returns an expression that is at most this deep.
func (m maker) expr(deep int) api.Expr {
	if deep <= 1 || m.Intn(3) == 0 {
		leaves := []api.Expr{number(m.value()), scalar(m.Intn(7)), scalar(m.Intn(3)), {Op: api.Self + m.Intn(4)}}
		return leaves[m.Intn(len(leaves))]
	}
	if m.Intn(6) == 0 {
		return api.Expr{Op: api.Index, Slot: m.Intn(6), Size: m.Intn(4), Args: []api.Expr{m.expr(deep - 1)}}
	}
	return apply(api.Neg+m.Intn(api.Or-api.Neg+1), m.expr(deep-1), m.expr(deep-1))
}

// list returns statements that are at most this deep, with any fields.
func (m maker) list(deep int) []api.Stmt {
	var l []api.Stmt
	for range m.Intn(5) {
		l = append(l, m.statement(deep))
	}
	return l
}

func (m maker) statement(deep int) api.Stmt {
	s := api.Stmt{Kind: 1 + m.Intn(6), Slot: m.Intn(7), Size: m.Intn(5), Place: m.expr(2), Value: m.expr(3)}
	s.Name = []string{"", "x", "while"}[m.Intn(3)]
	switch m.Intn(12) {
	case 0:
		s.Kind = m.value()
	case 1:
		s.Slot = m.value()
	case 2:
		s.Size = m.value()
	case 3:
		s.Place = number(m.value())
	case 4:
		return increase(m.Intn(4), 1+m.Intn(3))
	case 5:
		s = loop(apply(api.Less, scalar(m.Intn(4)), number(m.Intn(90))), increase(m.Intn(4), 1))
	}
	if deep > 1 {
		s.Body = append(s.Body, m.list(deep-1)...)
		s.Else = m.list(deep - 1)
	}
	return s
}
