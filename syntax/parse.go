package syntax

import (
	"rollbacknet/api"
	"rollbacknet/token"
)

// Parse returns the program of a text, or the byte offset of an error.
func Parse(text string) (api.Program, int, api.Errno) {
	l, at, e := token.Scan(text)
	if e != api.OK {
		return api.Program{}, at, e
	}
	p, at, e := parse(l, len(text))
	if e != api.OK {
		return api.Program{}, at, e
	}
	if Depth(p) > api.MaxDepth {
		return api.Program{}, 0, api.ErrTooDeep
	}
	return p, 0, api.OK
}

// parser reads the tokens of a text one by one.
type parser struct {
	tokens []api.Token
	read   int // how many of the tokens were taken
	end    int // the length of the text
}

// failure is what a parser throws: the place of the token that it cannot take.
type failure struct {
	at int
}

// parse returns the program that consists of the tokens of a text with this length, or the byte offset of an error.
func parse(l []api.Token, end int) (p api.Program, at int, e api.Errno) {
	defer func() {
		switch thrown := recover().(type) {
		case nil:
		case failure:
			at, e = thrown.at, api.ErrSyntax
		default:
			panic(thrown)
		}
	}()
	r := &parser{tokens: l, end: end}
	return r.program(), 0, api.OK
}

// next returns the next token without taking it. At the end of the text it is one that fits nowhere.
func (r *parser) next() api.Token {
	if r.read < len(r.tokens) {
		return r.tokens[r.read]
	}
	return api.Token{At: r.end}
}

func (r *parser) fail() {
	panic(failure{r.next().At})
}

// accept takes the next token if it has this text, and reports whether it has.
func (r *parser) accept(text string) bool {
	if r.next().Text != text {
		return false
	}
	r.read++
	return true
}

func (r *parser) expect(text string) {
	if !r.accept(text) {
		r.fail()
	}
}

func (r *parser) name() string {
	t := r.next()
	if t.Kind != api.Name || !token.Valid(t.Text) {
		r.fail()
	}
	r.read++
	return t.Text
}

// number takes a number that has at least this value.
func (r *parser) number(least int) int {
	t := r.next()
	if t.Kind != api.Number || t.Value < least {
		r.fail()
	}
	r.read++
	return t.Value
}

// symbol takes the next token if it is a symbol of this level, and returns its operator, or 0.
func (r *parser) symbol(level int) int {
	for _, s := range symbols {
		if s.level == level && r.accept(s.text) {
			return s.op
		}
	}
	return 0
}

func (r *parser) program() api.Program {
	vars := r.declarations()
	bodies := r.bodies()
	if r.read < len(r.tokens) {
		r.fail()
	}
	return api.Program{
		Vars:    vars,
		Start:   bodies["start"],
		Message: bodies["message"],
		Tick:    bodies["tick"],
		Input:   bodies["input"],
	}
}

func (r *parser) declarations() []api.Var {
	var l []api.Var
	for {
		switch {
		case r.accept("var"):
			l = append(l, r.variable())
		case r.accept("array"):
			l = append(l, r.array())
		default:
			return l
		}
	}
}

// variable takes what follows the word var.
func (r *parser) variable() api.Var {
	v := api.Var{Name: r.name()}
	if r.accept("=") {
		if r.accept("-") {
			v.Init = -r.number(0)
		} else {
			v.Init = r.number(0)
		}
	}
	r.expect(";")
	return v
}

// array takes what follows the word array.
func (r *parser) array() api.Var {
	v := api.Var{Name: r.name()}
	r.expect("[")
	v.Size = r.number(1)
	r.expect("]")
	r.expect(";")
	return v
}

// bodies takes handlers, and returns their bodies by their words.
func (r *parser) bodies() map[string][]api.Stmt {
	l := map[string][]api.Stmt{}
	for r.accept("on") {
		word := r.next().Text
		_, twice := l[word]
		if twice || !isHandler(word) {
			r.fail()
		}
		r.read++
		l[word] = r.block()
	}
	return l
}

func isHandler(word string) bool {
	for _, h := range handlers(api.Program{}) {
		if h.word == word {
			return true
		}
	}
	return false
}

func (r *parser) block() []api.Stmt {
	r.expect("{")
	var l []api.Stmt
	for !r.accept("}") {
		l = append(l, r.statement())
	}
	return l
}

func (r *parser) statement() api.Stmt {
	switch {
	case r.accept("if"):
		return r.choice()
	case r.accept("while"):
		s := api.Stmt{Kind: api.While, Value: r.expr()}
		s.Body = r.block()
		return s
	case r.accept("send"):
		s := api.Stmt{Kind: api.Put, Place: r.expr()}
		r.expect(",")
		s.Value = r.expr()
		r.expect(";")
		return s
	case r.accept("output"):
		s := api.Stmt{Kind: api.Out, Value: r.expr()}
		r.expect(";")
		return s
	}
	return r.assignment()
}

// choice takes what follows the word if.
func (r *parser) choice() api.Stmt {
	s := api.Stmt{Kind: api.If, Value: r.expr()}
	s.Body = r.block()
	if r.accept("else") {
		s.Else = r.block()
	}
	return s
}

func (r *parser) assignment() api.Stmt {
	s := api.Stmt{Kind: api.Assign, Name: r.name()}
	if r.accept("[") {
		s.Kind = api.Store
		s.Place = r.expr()
		r.expect("]")
	}
	r.expect("=")
	s.Value = r.expr()
	r.expect(";")
	return s
}

func (r *parser) expr() api.Expr {
	return r.binary(0)
}

// binary takes operands of a level with the operators between them.
func (r *parser) binary(level int) api.Expr {
	if level == unary {
		return r.unary()
	}
	operator := func() int { return r.symbol(level) }
	e := r.binary(level + 1)
	for op := operator(); op != 0; op = operator() {
		e = api.Expr{Op: op, Args: []api.Expr{e, r.binary(level + 1)}}
	}
	return e
}

func (r *parser) unary() api.Expr {
	if op := r.symbol(unary); op != 0 {
		return api.Expr{Op: op, Args: []api.Expr{r.unary()}}
	}
	return r.primary()
}

func (r *parser) primary() api.Expr {
	if op := r.symbol(plain); op != 0 {
		return api.Expr{Op: op}
	}
	if r.accept("(") {
		e := r.expr()
		r.expect(")")
		return e
	}
	if r.next().Kind == api.Number {
		return api.Expr{Op: api.Const, Value: r.number(0)}
	}
	e := api.Expr{Op: api.Scalar, Name: r.name()}
	if r.accept("[") {
		e.Op = api.Index
		e.Args = []api.Expr{r.expr()}
		r.expect("]")
	}
	return e
}
