package syntax_test

import (
	"fmt"
	"math"
	"strings"
	"testing"

	"rollbacknet/api"
	"rollbacknet/syntax"
	"rollbacknet/token"
)

func wantProgram(t *testing.T, text string, want api.Program) {
	t.Helper()
	p, at, e := syntax.Parse(text)
	if !same(p, want) || at != 0 || e != api.OK {
		t.Errorf("Parse(%q) = %+v, %d, %d, want %+v", text, p, at, e, want)
	}
}

func wantError(t *testing.T, text string, at int, want api.Errno) {
	t.Helper()
	p, got, e := syntax.Parse(text)
	if !same(p, api.Program{}) || got != at || e != want {
		t.Errorf("Parse(%q) = %+v, %d, %d, want the zero program, %d, %d", text, p, got, e, at, want)
	}
}

func wantExpr(t *testing.T, text string, want api.Expr) {
	t.Helper()
	wantProgram(t, "on tick{x="+text+";}", onTick(assign("x", want)))
}

// P2.1 and P2.2: declarations.
func TestP2_1Declarations(t *testing.T) {
	wantProgram(t, "", api.Program{})
	wantProgram(t, " # nothing", api.Program{})
	for text, v := range map[string]api.Var{
		"var x;":                         {Name: "x"},
		"var x = 0;":                     {Name: "x"},
		"var x = -0;":                    {Name: "x"},
		"var x = 7;":                     {Name: "x", Init: 7},
		"var x = - 7;":                   {Name: "x", Init: -7},
		"var x = 9223372036854775807;":   {Name: "x", Init: math.MaxInt64},
		"var x=-9223372036854775807;":    {Name: "x", Init: -math.MaxInt64},
		"array a[1];":                    {Name: "a", Size: 1},
		"array a[9223372036854775807];":  {Name: "a", Size: math.MaxInt64},
		"array nnnnnnnnnnnnnnnn[ 33 ] ;": {Name: "nnnnnnnnnnnnnnnn", Size: 33},
	} {
		wantProgram(t, text, api.Program{Vars: []api.Var{v}})
		wantProgram(t, text+"var y=3;"+text, api.Program{Vars: []api.Var{v, {Name: "y", Init: 3}, v}})
	}
	wantProgram(t, strings.Repeat("var x;", 100), api.Program{Vars: func() (l []api.Var) {
		for range 100 {
			l = append(l, api.Var{Name: "x"})
		}
		return l
	}()})
}

// P2.1 and P2.2: handlers, in any order, and ones without statements.
func TestP2_1Handlers(t *testing.T) {
	one := func(v int) []api.Stmt { return []api.Stmt{output(number(v))} }
	all := api.Program{Start: one(1), Message: one(2), Tick: one(3), Input: one(4)}
	start, message := "on start{output 1;}", "on message{output 2;}"
	tick, input := "on tick{output 3;}", "on input{output 4;}"
	wantProgram(t, start+message+tick+input, all)
	wantProgram(t, input+tick+message+start, all)
	wantProgram(t, tick+start+input+message, all)
	wantProgram(t, start, api.Program{Start: one(1)})
	wantProgram(t, message, api.Program{Message: one(2)})
	wantProgram(t, tick, api.Program{Tick: one(3)})
	wantProgram(t, input, api.Program{Input: one(4)})
	wantProgram(t, "on start{}on message{}on tick{}on input{}", api.Program{})
	wantProgram(t, "var x;"+"on tick{}"+start, api.Program{Vars: []api.Var{{Name: "x"}}, Start: one(1)})
}

// P2.1 and P2.2: statements.
func TestP2_1Statements(t *testing.T) {
	x, y, one := scalar("x"), scalar("y"), number(1)
	in := []api.Stmt{assign("y", one)}
	for text, s := range map[string]api.Stmt{
		"x = 1;":                 assign("x", one),
		"x[1] = y;":              {Kind: api.Store, Name: "x", Place: one, Value: y},
		"x[x[y]] = 1;":           {Kind: api.Store, Name: "x", Place: element("x", y), Value: one},
		"if x { }":               {Kind: api.If, Value: x},
		"if x { y = 1; }":        {Kind: api.If, Value: x, Body: in},
		"if x { } else { }":      {Kind: api.If, Value: x},
		"if x { } else { y=1; }": {Kind: api.If, Value: x, Else: in},
		"if x {y=1;}else{y=1;}":  {Kind: api.If, Value: x, Body: in, Else: in},
		"while x { }":            {Kind: api.While, Value: x},
		"while x { y = 1; }":     {Kind: api.While, Value: x, Body: in},
		"send x, y;":             {Kind: api.Put, Place: x, Value: y},
		"output x;":              output(x),
		"if x { while y { if 1 { y = 1; } } } else { if y { } else { y = 1; } }": {Kind: api.If, Value: x,
			Body: []api.Stmt{{Kind: api.While, Value: y, Body: []api.Stmt{{Kind: api.If, Value: one, Body: in}}}},
			Else: []api.Stmt{{Kind: api.If, Value: y, Else: in}}},
	} {
		wantProgram(t, "on tick{"+text+"}", onTick(s))
		wantProgram(t, "on tick{"+text+"output 2;"+text+"}", onTick(s, output(number(2)), s))
	}
}

// P2.1 and P2.2: primary expressions and the operators.
func TestP2_1Operators(t *testing.T) {
	a, b := scalar("a"), scalar("b")
	wantExpr(t, "0", number(0))
	wantExpr(t, "9223372036854775807", number(math.MaxInt64))
	wantExpr(t, "a", a)
	wantExpr(t, "a[b]", element("a", b))
	wantExpr(t, "a[a[b]]", element("a", element("a", b)))
	wantExpr(t, "(a)", a)
	wantExpr(t, "(((a[(1)])))", element("a", number(1)))
	for _, w := range words {
		wantExpr(t, w.text, api.Expr{Op: w.op})
		wantExpr(t, "("+w.text+")", api.Expr{Op: w.op})
	}
	for _, s := range prefix {
		wantExpr(t, s.text+"a", apply(s.op, a))
		wantExpr(t, s.text+"3", apply(s.op, number(3)))
		wantExpr(t, s.text+"a[b]", apply(s.op, element("a", b)))
		for _, u := range prefix {
			wantExpr(t, s.text+u.text+"a", apply(s.op, apply(u.op, a)))
		}
	}
	for _, s := range binary {
		wantExpr(t, "a"+s.text+"b", apply(s.op, a, b))
		wantExpr(t, "a["+"a"+s.text+"b]", element("a", apply(s.op, a, b)))
		for _, u := range prefix {
			wantExpr(t, u.text+"a"+s.text+"b", apply(s.op, apply(u.op, a), b))
			wantExpr(t, "a"+s.text+u.text+"b", apply(s.op, a, apply(u.op, b)))
			wantExpr(t, u.text+"(a"+s.text+"b)", apply(u.op, apply(s.op, a, b)))
		}
	}
}

// P2.1: which one of two operators binds more, and that both associate to the left.
func TestP2_1Levels(t *testing.T) {
	a, b, c := scalar("a"), scalar("b"), scalar("c")
	for _, s := range binary {
		for _, u := range binary {
			left := apply(u.op, apply(s.op, a, b), c)
			right := apply(s.op, a, apply(u.op, b, c))
			want := left
			if s.level < u.level {
				want = right
			}
			wantExpr(t, "a"+s.text+"b"+u.text+"c", want)
			wantExpr(t, "(a"+s.text+"b)"+u.text+"c", left)
			wantExpr(t, "a"+s.text+"(b"+u.text+"c)", right)
		}
	}
	wantProgram(t, "on tick { x = -1 - 2; }", onTick(assign("x", apply(api.Sub, apply(api.Neg, number(1)), number(2)))))
}

// P2.1 and P2.2: larger programs, in which expressions have no more parentheses than they need.
func TestP2_1Programs(t *testing.T) {
	m := newMaker(1)
	read := 0
	for range 3000 {
		p := m.program()
		text := showProgram(p)
		if len(text) <= api.MaxText && syntax.Depth(p) <= api.MaxDepth {
			wantProgram(t, text, p)
			read++
		}
	}
	if read < 2000 {
		t.Errorf("only %d programs", read)
	}
}

// P2.2: the first token that does not continue a program.
func TestP2_2Syntax(t *testing.T) {
	for _, x := range []struct {
		text string
		at   int
	}{
		{"x", 0}, {"5", 0}, {"{", 0}, {"start", 0}, {";", 0}, {"# c\n )", 5},
		{"var", 3}, {"var  ", 5}, {"var 5;", 4}, {"var ;", 4}, {"var self;", 4}, {"var var;", 4}, {"var x", 5}, {"var x # c\n", 10},
		{"var x y;", 6}, {"var x[1];", 5}, {"var x ==1;", 6}, {"var x=;", 6}, {"var x=y;", 6}, {"var x=-;", 7}, {"var x=--1;", 7},
		{"var x=+1;", 6}, {"var x=(1);", 6}, {"var x=1", 7}, {"var x=1 2;", 8}, {"var x=1+1;", 7}, {"var x=-y;", 7}, {"var x,y;", 5},
		{"array", 5}, {"array a;", 7}, {"array a=1;", 7}, {"array value[1];", 6}, {"array a[", 8}, {"array a[];", 8}, {"array a[n];", 8},
		{"array a[-1];", 8}, {"array a[1;", 9}, {"array a[1]", 10}, {"array a[1]=2;", 10}, {"array a[1+1];", 9},
		{"on", 2}, {"on on", 3}, {"on 5", 3}, {"on tock{}", 3}, {"on value{}", 3}, {"on {", 3}, {"on tick", 7}, {"on tick;", 7}, {"on tick x=1;", 8},
		{"on tick{", 8}, {"on tick{}}", 9}, {"on tick{};", 9}, {"on tick{}x=1;", 9}, {"on tick{} var x;", 10}, {"on tick{} array a[1];", 10}, {"on tick on", 8},
		{"on tick{;}", 8}, {"on tick{1=x;}", 8}, {"on tick{self=1;}", 8}, {"on tick{else{}}", 8}, {"on tick{var x;}", 8}, {"on tick{on", 8}, {"on tick{{}}", 8},
		{"on tick{x}", 9}, {"on tick{x;}", 9}, {"on tick{x==1;}", 9}, {"on tick{x=}", 10}, {"on tick{x=;}", 10}, {"on tick{x=1}", 11}, {"on tick{x=1,2;}", 11},
		{"on tick{x[]=1;}", 10}, {"on tick{x[1;}", 11}, {"on tick{x[1]}", 12}, {"on tick{x[1][2]=3;}", 12}, {"on tick{x=y=1;}", 11},
		{"on tick{if{}}", 10}, {"on tick{if x y=1;}", 13}, {"on tick{if x{}else y=1;}", 19}, {"on tick{if x{}else if y{}}", 19}, {"on tick{if x{}else{}else{}}", 20},
		{"on tick{if x;}", 12}, {"on tick{while{}}", 13}, {"on tick{while x y=1;}", 16}, {"on tick{while x{}else{}}", 17},
		{"on tick{send;}", 12}, {"on tick{send 1;}", 14}, {"on tick{send 1,;}", 15}, {"on tick{send 1,2,3;}", 16}, {"on tick{send(1,2);}", 14}, {"on tick{output;}", 14}, {"on tick{output 1,2;}", 16},
		{"on tick{x=(1;}", 12}, {"on tick{x=();}", 11}, {"on tick{x=1);}", 11}, {"on tick{x=1 2;}", 12}, {"on tick{x=y z;}", 12}, {"on tick{x=1[2];}", 11}, {"on tick{x=y[1][2];}", 14}, {"on tick{x=self[1];}", 14},
		{"on tick{x=if;}", 10}, {"on tick{x=start;}", 10}, {"on tick{x=*1;}", 10}, {"on tick{x=+1;}", 10}, {"on tick{x=1+;}", 12}, {"on tick{x=1+*2;}", 12}, {"on tick{x=1!2;}", 11}, {"on tick{x=-;}", 11}, {"on tick{x=!;}", 11}, {"on tick{x=1<<2;}", 12},
		{"on tick{x=y(1);}", 11}, {"on tick{x=(y)[1];}", 13}, {"on tick{x=1", 11}, {"on tick{x=1+ # c", 16}, {"on tick{if x{", 13}, {"on tick{x=1;", 12},
	} {
		wantError(t, x.text, x.at, api.ErrSyntax)
	}
}

// P2.2: a handler that occurs twice, and arrays without cells.
func TestP2_2Twice(t *testing.T) {
	wantError(t, "array a[0];", 8, api.ErrSyntax)
	wantError(t, "array a[0", 8, api.ErrSyntax)
	wantError(t, "array a[ 0 0 ? ];", 13, api.ErrSyntax) // the ? is no token
	for _, word := range []string{"start", "message", "tick", "input"} {
		text := "on " + word + "{}"
		wantError(t, text+"on "+word+"{}", len(text)+3, api.ErrSyntax)
		wantError(t, text+"on "+word, len(text)+3, api.ErrSyntax)
		wantError(t, text+"on", len(text)+2, api.ErrSyntax)
		wantError(t, "on "+word+" on "+word, len(word)+4, api.ErrSyntax)
		text += "on " + map[bool]string{true: "tick", false: "start"}[word != "tick"] + "{x=1;}"
		wantError(t, text+" on "+word+"{x=1;}", len(text)+4, api.ErrSyntax)
	}
	all := "on start{} on message{} on tick{} on input{} "
	wantError(t, all+"on start{}", len(all)+3, api.ErrSyntax)
	wantError(t, all+"on tock{}", len(all)+3, api.ErrSyntax)
}

// P2.2: the errors of token.Scan come first.
func TestP2_2Scan(t *testing.T) {
	wantError(t, "y ?", 2, api.ErrSyntax)
	wantError(t, "= 9223372036854775808", 2, api.ErrRange)
	wantError(t, "array a[0]; "+strings.Repeat("n", api.MaxName+1), 12, api.ErrTooLong)
	wantError(t, "on tick{x="+strings.Repeat("-", 99)+"1;} 00", 113, api.ErrSyntax)
	wantError(t, ")"+strings.Repeat(" ", api.MaxText), 0, api.ErrTooLong)
	wantProgram(t, strings.Repeat(" ", api.MaxText), api.Program{})
	wantError(t, ")"+strings.Repeat(" ", api.MaxText-1), 0, api.ErrSyntax)
}

// P2.2: too many levels, which come last. The limit is no error.
func TestP2_2TooDeep(t *testing.T) {
	signs := func(n int) string { return "on tick{x=" + strings.Repeat("-", n) + "1;}" }
	wantProgram(t, signs(14), onTick(assign("x", negated(14))))
	wantError(t, signs(15), 0, api.ErrTooDeep)
	wantError(t, signs(4000), 0, api.ErrTooDeep)
	wantError(t, signs(4000)+")", 4013, api.ErrSyntax)
	wantError(t, signs(15)+"on tick", 31, api.ErrSyntax)
	nested := func(n int) string {
		return "on input{" + strings.Repeat("if 0{", n) + "output 1;" + strings.Repeat("}", n+1)
	}
	p := api.Program{Input: []api.Stmt{output(number(1))}}
	for range 14 {
		p.Input = []api.Stmt{{Kind: api.If, Value: number(0), Body: p.Input}}
	}
	wantProgram(t, nested(14), p)
	wantError(t, nested(15), 0, api.ErrTooDeep)
	wantError(t, nested(600), 0, api.ErrTooDeep)
	wantError(t, nested(600)[:3600], 3600, api.ErrSyntax)
	wantExpr(t, strings.Repeat("(", 2000)+"1"+strings.Repeat(")", 2000), number(1))
	wantError(t, "on tick{x="+strings.Repeat("(", 4000), 4010, api.ErrSyntax)
	wantError(t, "on tick{x=1"+strings.Repeat("+1", 2000)+";}", 0, api.ErrTooDeep)
	wantError(t, "on tick{x="+strings.Repeat("a[", 1000)+"1"+strings.Repeat("]", 1000)+";}", 0, api.ErrTooDeep)
}

// grammar is the one of P2.1, written so that lists are what follows on their first element. NAME and NUMBER are tokens, and so are all words that are no rule.
func grammar() map[string][]string {
	return map[string][]string{
		"program":     {"declaration program", "handlers"},
		"declaration": {"var NAME initial ;", "array NAME [ NUMBER ] ;"},
		"initial":     {"", "= NUMBER", "= - NUMBER"},
		"handlers":    {"", "handler handlers"},
		"handler":     {"on start block", "on message block", "on tick block", "on input block"},
		"block":       {"{ statements }"},
		"statements":  {"", "statement statements"},
		"statement": {"NAME = expr ;", "NAME [ expr ] = expr ;", "if expr block otherwise",
			"while expr block", "send expr , expr ;", "output expr ;"},
		"otherwise": {"", "else block"},
		"expr":      {"and ands"},
		"ands":      {"", "|| and ands"},
		"and":       {"compare compares"},
		"compares":  {"", "&& compare compares"},
		"compare":   {"sum sums"},
		"sums":      {"", "== sum sums", "!= sum sums", "< sum sums", "<= sum sums", "> sum sums", ">= sum sums"},
		"sum":       {"term terms"},
		"terms":     {"", "+ term terms", "- term terms"},
		"term":      {"unary unaries"},
		"unaries":   {"", "* unary unaries", "/ unary unaries", "% unary unaries"},
		"unary":     {"- unary", "! unary", "primary"},
		"primary":   {"NUMBER", "NAME", "NAME [ expr ]", "self", "procs", "from", "value", "( expr )"},
	}
}

// fits reports whether a token is what the grammar calls so.
func fits(x api.Token, terminal string) bool {
	switch terminal {
	case "NAME":
		return x.Kind == api.Name && token.Valid(x.Text)
	case "NUMBER":
		return x.Kind == api.Number
	}
	return x.Text == terminal
}

// after returns what can follow on a token in each one of some sentences (lists of words); nil stands for the end.
func after(rules map[string][]string, open [][]string, x *api.Token) (next [][]string) {
	for len(open) > 0 {
		s := open[0]
		open = open[1:]
		switch {
		case len(s) == 0 && x == nil:
			next = append(next, s)
		case len(s) == 0:
		case rules[s[0]] != nil:
			for _, r := range rules[s[0]] {
				open = append(open, append(strings.Fields(r), s[1:]...))
			}
		case x != nil && fits(*x, s[0]):
			next = append(next, s[1:])
		}
	}
	return next
}

// byGrammar returns the offset and the error that P2.2 asks for, but for the depth, and OK for a program.
func byGrammar(text string) (int, api.Errno) {
	l, at, e := token.Scan(text)
	if e != api.OK {
		return at, e
	}
	rules := grammar()
	open := [][]string{{"program"}}
	seen := map[string]bool{}
	for i, x := range l {
		open = after(rules, open, &x)
		twice := i > 0 && l[i-1].Text == "on" && seen[x.Text]
		empty := i > 2 && l[i-3].Text == "array" && x.Value == 0
		if len(open) == 0 || twice || empty {
			return x.At, api.ErrSyntax
		}
		if i > 0 && l[i-1].Text == "on" {
			seen[x.Text] = true
		}
	}
	if len(after(rules, open, nil)) == 0 {
		return len(text), api.ErrSyntax
	}
	return 0, api.OK
}

// wantGrammar compares Parse with the grammar, and returns the error.
func wantGrammar(t *testing.T, text string) api.Errno {
	t.Helper()
	p, at, e := syntax.Parse(text)
	wat, we := byGrammar(text)
	if e == api.ErrTooDeep && we == api.OK {
		we = e
	}
	if at != wat || e != we || e != api.OK && !same(p, api.Program{}) {
		t.Fatalf("Parse(%q) = %+v, %d, %d, want %d, %d", text, p, at, e, wat, we)
	}
	return e
}

// changed returns a list of tokens of which one is taken out, doubled, or replaced by, or put behind, another one.
func changed(m maker, l []api.Token) []api.Token {
	all := strings.Fields("var array on start message tick input if else while send output self procs from value " +
		"== != <= >= && || ( ) { } [ ] , ; = < > + - * / % ! x y 0 1 17")
	text := pick(m, all)
	other, _, _ := token.Scan(text)
	i := m.Intn(len(l))
	out := append([]api.Token(nil), l[:i]...)
	switch m.Intn(4) {
	case 0:
	case 1:
		out = append(out, l[i], l[i])
	case 2:
		out = append(out, other[0])
	case 3:
		out = append(out, other[0], l[i])
	}
	return append(out, l[i+1:]...)
}

// P2.1 and P2.2: programs with a change, and their beginnings, are what the grammar says.
func TestP2_2Changed(t *testing.T) {
	m := newMaker(2)
	found := map[api.Errno]int{}
	for range 1500 {
		l, _, e := token.Scan(showProgram(m.program()))
		if e != api.OK || len(l) > 400 {
			continue
		}
		for range 6 {
			if len(l) > 0 {
				found[wantGrammar(t, token.Print(changed(m, l)))]++
			}
		}
		found[wantGrammar(t, token.Print(l[:m.Intn(len(l)+1)]))]++
	}
	if found[api.OK] < 300 || found[api.ErrSyntax] < 3000 {
		t.Errorf("found %v", found)
	}
}

// P2.1 and P2.2: all texts of a few tokens inside of a statement, and of a program.
func TestP2_2Short(t *testing.T) {
	for _, x := range []struct {
		around string
		words  string
		most   int
	}{
		{"%s", "var array on tick x 1 0 [ ] = - ; { }", 4},
		{"array a[%s", "1 0 ] ;", 4},
		{"on tick{x=%s;}", "x 1 self ( ) [ ] - ! + < && if", 4},
		{"on tick{%s}", "if else while send output x 1 = [ ] { } , ;", 4},
	} {
		texts := []string{""}
		for range x.most {
			var longer []string
			for _, s := range texts {
				for _, w := range strings.Fields(x.words) {
					longer = append(longer, s+" "+w)
				}
			}
			for _, s := range longer {
				wantGrammar(t, fmt.Sprintf(x.around, s))
			}
			texts = longer
		}
	}
}

func ExampleParse() {
	p, at, e := syntax.Parse("on tick { x = -1 - 2; }")
	text, _ := syntax.Format(p)
	fmt.Printf("%d %d\n%s", at, e, text)
	_, at, e = syntax.Parse("array a[0];")
	fmt.Println(at, e == api.ErrSyntax)
	// Output:
	// 0 0
	// on tick {
	//   x = (-1) - 2;
	// }
	// 8 true
}
