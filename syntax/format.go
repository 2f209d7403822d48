package syntax

import (
	"strconv"
	"strings"

	"rollbacknet/api"
)

// Format returns the text of a program.
func Format(p api.Program) (string, api.Errno) {
	if e := Check(p); e != api.OK {
		return "", e
	}
	w := &writer{}
	for _, v := range p.Vars {
		w.declaration(v)
	}
	for _, h := range handlers(p) {
		if len(h.body) > 0 {
			w.line("on ", h.word, " {")
			w.body(h.body)
			w.line("}")
		}
	}
	if w.text.Len() > api.MaxText {
		return "", api.ErrTooLong
	}
	return w.text.String(), api.OK
}

// writer writes lines.
type writer struct {
	text  strings.Builder
	level int // how far lines are indented
}

func (w *writer) line(parts ...string) {
	// Nobody sees a text that is too long, however long it would be.
	if w.text.Len() > api.MaxText {
		return
	}
	for range w.level {
		w.text.WriteString("  ")
	}
	for _, s := range parts {
		w.text.WriteString(s)
	}
	w.text.WriteByte('\n')
}

func (w *writer) declaration(v api.Var) {
	switch {
	case v.Size != 0:
		w.line("array ", v.Name, "[", strconv.Itoa(v.Size), "];")
	case v.Init != 0:
		w.line("var ", v.Name, " = ", strconv.Itoa(v.Init), ";")
	default:
		w.line("var ", v.Name, ";")
	}
}

// body writes statements one level deeper than the lines around them.
func (w *writer) body(l []api.Stmt) {
	w.level++
	for _, s := range l {
		w.statement(s)
	}
	w.level--
}

func (w *writer) statement(s api.Stmt) {
	value := exprText(s.Value)
	switch s.Kind {
	case api.Assign:
		w.line(s.Name, " = ", value, ";")
	case api.Store:
		w.line(s.Name, "[", exprText(s.Place), "] = ", value, ";")
	case api.If:
		w.line("if ", value, " {")
		w.body(s.Body)
		if len(s.Else) > 0 {
			w.line("} else {")
			w.body(s.Else)
		}
		w.line("}")
	case api.While:
		w.line("while ", value, " {")
		w.body(s.Body)
		w.line("}")
	case api.Put:
		w.line("send ", exprText(s.Place), ", ", value, ";")
	case api.Out:
		w.line("output ", value, ";")
	}
}

// exprText returns the text of an expression that is as Parse makes it.
func exprText(e api.Expr) string {
	switch e.Op {
	case api.Const:
		return strconv.Itoa(e.Value)
	case api.Scalar:
		return e.Name
	case api.Index:
		return e.Name + "[" + exprText(e.Args[0]) + "]"
	}
	s, _ := symbolOf(e.Op)
	switch s.level {
	case plain:
		return s.text
	case unary:
		return s.text + operandText(e.Args[0])
	}
	return operandText(e.Args[0]) + " " + s.text + " " + operandText(e.Args[1])
}

// operandText returns the text of an operand, in parentheses if it is the application of an operator.
func operandText(e api.Expr) string {
	if s, ok := symbolOf(e.Op); ok && s.level != plain {
		return "(" + exprText(e) + ")"
	}
	return exprText(e)
}
