package resolve_test

import (
	"fmt"
	"math"
	"math/rand"
	"strconv"
	"testing"

	"rollbacknet/api"
	"rollbacknet/syntax"
	"rollbacknet/token"
)

// same compares values; a nil list and an empty one print alike.
func same(a, b any) bool { return fmt.Sprintf("%+v", a) == fmt.Sprintf("%+v", b) }

func parse(t *testing.T, text string) api.Program {
	t.Helper()
	p, at, e := syntax.Parse(text)
	if e != api.OK {
		t.Fatalf("Parse(%q): %d at %d", text, e, at)
	}
	return p
}

// writer writes texts of programs at random. Of a hundred names that it uses, this many are any name, used in any way.
type writer struct {
	*rand.Rand
	wrong     int
	variables []string
	arrays    []string
}

func pick(w *writer, l ...string) string { return l[w.Intn(len(l))] }

// declarations returns declarations, mostly of few cells and with names of their own.
func (w *writer) declarations() string {
	w.variables, w.arrays = nil, nil
	count, text := w.Intn(7), ""
	if w.Intn(8) == 0 {
		count = api.MaxVars - 1 + w.Intn(3)
	}
	for i := range count {
		name := "n" + strconv.Itoa(i)
		if w.Intn(100) < w.wrong {
			name = "n" + strconv.Itoa(w.Intn(count))
		}
		switch w.Intn(4) {
		case 0:
			w.variables = append(w.variables, name)
			text += "var " + name + " = " + pick(w, "", "-") + strconv.Itoa(w.Intn(9)) + ";"
		case 1:
			size := 1 + w.Intn(4)
			if w.Intn(100) < w.wrong {
				size = math.MaxInt >> w.Intn(63)
			}
			w.arrays = append(w.arrays, name)
			text += "array " + name + "[" + strconv.Itoa(size) + "];"
		default:
			w.variables = append(w.variables, name)
			text += "var " + name + ";"
		}
	}
	return text
}

// name returns a name out of the list, or any name, or none if the list has none.
func (w *writer) name(l []string) string {
	if w.Intn(100) < w.wrong {
		return "n" + strconv.Itoa(w.Intn(8))
	}
	if len(l) == 0 {
		return ""
	}
	return pick(w, l...)
}

// expr returns an expression that is at most this deep.
func (w *writer) expr(deep int) string {
	if deep > 1 {
		switch w.Intn(5) {
		case 0:
			if a := w.name(w.arrays); a != "" {
				return a + "[" + w.expr(deep-1) + "]"
			}
		case 1:
			return pick(w, "-", "!") + "(" + w.expr(deep-1) + ")"
		case 2, 3:
			return "(" + w.expr(deep-1) + ")" + pick(w, "+", "-", "*", "/", "%", "<", "<=", ">", ">=", "==", "!=", "&&", "||") + "(" + w.expr(deep-1) + ")"
		}
	}
	if x := w.name(w.variables); x != "" && w.Intn(3) > 0 {
		return x
	}
	return pick(w, "self", "procs", "from", "value", strconv.Itoa(w.Intn(9)))
}

// block returns a few statements in braces that are at most this deep (at least 2).
func (w *writer) block(deep int) string {
	text := "{"
	for range w.Intn(4) {
		value := w.expr(min(deep-1, 3))
		x, a := w.name(w.variables), w.name(w.arrays)
		switch kind := w.Intn(6); {
		case kind == 0 && x != "":
			text += x + " = " + value + ";"
		case kind == 1 && a != "":
			text += a + "[" + w.expr(min(deep-1, 3)) + "] = " + value + ";"
		case kind == 2 && deep > 2:
			text += "if " + value + w.block(deep-1) + pick(w, "", "else"+w.block(deep-1))
		case kind == 3 && deep > 2:
			text += "while " + value + w.block(deep-1)
		case kind == 4:
			text += "send " + w.expr(min(deep-1, 3)) + ", " + value + ";"
		default:
			text += "output " + value + ";"
		}
	}
	return text + "}"
}

// program returns a text whose handlers stand in the order of the fields.
func (w *writer) program() string {
	text := w.declarations()
	for _, word := range []string{"start", "message", "tick", "input"} {
		if w.Intn(2) == 0 {
			text += " on " + word + " " + w.block(2+w.Intn(3))
		}
	}
	return text
}

// use is a name in a handler, with its place.
type use struct {
	name       string
	array      bool
	slot, size int
}

// usesOf returns the names that code uses, in the order of its text.
func usesOf(c api.Code) []use {
	l := usesIn(nil, c.Start)
	l = usesIn(l, c.Message)
	l = usesIn(l, c.Tick)
	return usesIn(l, c.Input)
}

func usesIn(l []use, body []api.Stmt) []use {
	for _, s := range body {
		if s.Kind == api.Assign || s.Kind == api.Store {
			l = append(l, use{s.Name, s.Kind == api.Store, s.Slot, s.Size})
		}
		l = usesOfExpr(usesOfExpr(l, s.Place), s.Value)
		l = usesIn(usesIn(l, s.Body), s.Else)
	}
	return l
}

func usesOfExpr(l []use, e api.Expr) []use {
	if e.Op == api.Scalar || e.Op == api.Index {
		l = append(l, use{e.Name, e.Op == api.Index, e.Slot, e.Size})
	}
	for _, a := range e.Args {
		l = usesOfExpr(l, a)
	}
	return l
}

// bare returns code with all places taken out.
func bare(c api.Code) api.Code {
	return api.Code{Init: c.Init, Start: bareStmts(c.Start), Message: bareStmts(c.Message), Tick: bareStmts(c.Tick), Input: bareStmts(c.Input)}
}

func bareStmts(l []api.Stmt) (out []api.Stmt) {
	for _, s := range l {
		s.Slot, s.Size = 0, 0
		s.Place, s.Value = bareExpr(s.Place), bareExpr(s.Value)
		s.Body, s.Else = bareStmts(s.Body), bareStmts(s.Else)
		out = append(out, s)
	}
	return out
}

func bareExpr(e api.Expr) api.Expr {
	e.Slot, e.Size = 0, 0
	var args []api.Expr
	for _, a := range e.Args {
		args = append(args, bareExpr(a))
	}
	e.Args = args
	return e
}

// byTokens returns the initial values, the uses and the error of a program by the tokens of its text alone.
func byTokens(t *testing.T, text string) ([]int, []use, api.Errno) {
	l, _, e := token.Scan(text)
	if e != api.OK {
		t.Fatalf("Scan(%q): %d", text, e)
	}
	var vars, uses []use
	var values []int
	free, twice, handlers := api.MaxCells, false, false
	for i := 0; i < len(l); i++ {
		switch x := l[i]; {
		case x.Text == "on":
			handlers = true
			i++
		case x.Kind != api.Name || token.Reserved(x.Text):
		case handlers:
			uses = append(uses, use{name: x.Text, array: l[i+1].Text == "["})
		default:
			v := use{name: x.Text, array: l[i+1].Text == "[", slot: len(values)}
			for _, other := range vars {
				twice = twice || other.name == v.name
			}
			first, count := 0, 1
			switch {
			case v.array:
				v.size, count = l[i+2].Value, l[i+2].Value
			case l[i+1].Text == "=" && l[i+2].Text == "-":
				first = -l[i+3].Value
			case l[i+1].Text == "=":
				first = l[i+2].Value
			}
			if count > free {
				free = -1
			} else {
				free -= count
				values = append(values, first)
				values = append(values, make([]int, count-1)...)
			}
			vars = append(vars, v)
		}
	}
	switch {
	case len(vars) > api.MaxVars:
		return nil, nil, api.ErrTooMany
	case twice:
		return nil, nil, api.ErrName
	case free < 0:
		return nil, nil, api.ErrTooMany
	}
	return values, uses, placed(uses, vars)
}

// placed gives each use the place of its declaration, and returns the error of the uses.
func placed(uses, vars []use) api.Errno {
	unknown, misused := false, false
	for i := range uses {
		known := false
		for _, v := range vars {
			if v.name == uses[i].name {
				known = true
				misused = misused || v.array != uses[i].array
				uses[i].slot, uses[i].size = v.slot, v.size
			}
		}
		unknown = unknown || !known
	}
	switch {
	case unknown:
		return api.ErrName
	case misused:
		return api.ErrShape
	}
	return api.OK
}
