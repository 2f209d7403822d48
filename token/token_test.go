package token_test

import (
	"fmt"
	"math"
	"math/rand"
	"regexp"
	"slices"
	"strconv"
	"strings"
	"testing"

	"rollbacknet/api"
	"rollbacknet/token"
)

var signs = strings.Fields("== != <= >= && || ( ) { } [ ] , ; = < > + - * / % !")

var reserved = strings.Fields("var array on start message tick input if else while send output self procs from value")

func name(text string, at int) api.Token { return api.Token{Kind: api.Name, Text: text, At: at} }
func sign(text string, at int) api.Token { return api.Token{Kind: api.Sign, Text: text, At: at} }
func number(v, at int) api.Token         { return api.Token{Kind: api.Number, Value: v, At: at} }

func wantTokens(t *testing.T, text string, want ...api.Token) {
	t.Helper()
	l, at, e := token.Scan(text)
	if !slices.Equal(l, want) || at != 0 || e != api.OK {
		t.Errorf("Scan(%q) = %v, %d, %d, want %v", text, l, at, e, want)
	}
}

func wantError(t *testing.T, text string, at int, want api.Errno) {
	t.Helper()
	l, got, e := token.Scan(text)
	if len(l) != 0 || got != at || e != want {
		t.Errorf("Scan(%q) = %v, %d, %d, want no tokens, %d, %d", text, l, got, e, at, want)
	}
}

// P1.1: which bytes are blanks, which begin a token, and which continue a name.
func TestP1_1Bytes(t *testing.T) {
	for i := range 256 {
		c := byte(i)
		s := string([]byte{c})
		letter := c == '_' || 'a' <= c && c <= 'z' || 'A' <= c && c <= 'Z'
		digit := '0' <= c && c <= '9'
		switch {
		case letter:
			wantTokens(t, s, name(s, 0))
			wantTokens(t, "a"+s+"z", name("a"+s+"z", 0))
		case digit:
			wantTokens(t, s, number(int(c-'0'), 0))
			wantTokens(t, "a"+s+"z", name("a"+s+"z", 0))
		case slices.Contains(signs, s):
			wantTokens(t, s, sign(s, 0))
			wantTokens(t, "a"+s+"z", name("a", 0), sign(s, 1), name("z", 2))
		case c == 9 || c == 10 || c == 13 || c == 32:
			wantTokens(t, s)
			wantTokens(t, "a"+s+"z", name("a", 0), name("z", 2))
		case c == '#':
			wantTokens(t, s)
			wantTokens(t, "a"+s+"z", name("a", 0))
		default:
			wantError(t, s, 0, api.ErrSyntax)
			wantError(t, "a"+s+"z", 1, api.ErrSyntax)
		}
	}
}

// P1.1: signs, each one alone and next to each other one.
func TestP1_1Signs(t *testing.T) {
	for _, a := range signs {
		wantTokens(t, a, sign(a, 0))
		for _, b := range signs {
			text := a + b
			if a == "=" || a == "<" || a == ">" || a == "!" {
				if b == "=" || b == "==" {
					wantTokens(t, text, append([]api.Token{sign(a+"=", 0)}, tail(b)...)...)
					continue
				}
			}
			wantTokens(t, text, sign(a, 0), sign(b, len(a)))
		}
	}
	wantTokens(t, "&&&&", sign("&&", 0), sign("&&", 2))
	wantError(t, "&", 0, api.ErrSyntax)
	wantError(t, "|", 0, api.ErrSyntax)
	wantError(t, "&&&", 2, api.ErrSyntax)
	wantError(t, "|=", 0, api.ErrSyntax)
	wantError(t, "&|", 0, api.ErrSyntax)
}

// tail is what is left of the second sign when its first byte belongs to the first one.
func tail(b string) []api.Token {
	if b == "==" {
		return []api.Token{sign("=", 2)}
	}
	return nil
}

// P1.1: comments.
func TestP1_1Comments(t *testing.T) {
	wantTokens(t, "a#b\nc", name("a", 0), name("c", 4))
	wantTokens(t, "a#b\rc\n", name("a", 0))
	wantTokens(t, "#\n#\n1#", number(1, 4))
	wantTokens(t, "## ? \xff & 007\n;", sign(";", 13))
	wantTokens(t, "<#\n=", sign("<", 0), sign("=", 3))
	wantTokens(t, "a#b\n", name("a", 0))
}

// P1.1: numbers, and their greatest value.
func TestP1_1Numbers(t *testing.T) {
	wantTokens(t, "0", number(0, 0))
	wantTokens(t, "1002003", number(1002003, 0))
	wantTokens(t, "-1", sign("-", 0), number(1, 1))
	wantTokens(t, "0-0", number(0, 0), sign("-", 1), number(0, 2))
	wantTokens(t, "9223372036854775806 9223372036854775807", number(math.MaxInt64-1, 0), number(math.MaxInt64, 20))
	wantError(t, "9223372036854775808", 0, api.ErrRange)
	wantError(t, "18446744073709551617", 0, api.ErrRange)
	wantError(t, ";"+strings.Repeat("9", 4000), 1, api.ErrRange)
	wantError(t, "00", 0, api.ErrSyntax)
	wantError(t, "01", 0, api.ErrSyntax)
	wantError(t, "1 0x", 2, api.ErrSyntax)
	wantError(t, "12a", 0, api.ErrSyntax)
	wantError(t, "12_", 0, api.ErrSyntax)
	wantError(t, "12Z", 0, api.ErrSyntax)
	wantError(t, "12\xc3\xa9", 2, api.ErrSyntax)
	wantError(t, "1.5", 1, api.ErrSyntax)
}

// P1.2: the fields of tokens, and the examples of the chapter.
func TestP1_2Tokens(t *testing.T) {
	wantTokens(t, "")
	wantTokens(t, " \t\r\n")
	wantTokens(t, "a==!b # c", name("a", 0), sign("==", 1), sign("!", 3), name("b", 4))
	wantTokens(t, "on message {\n\tx[10] = value;\n}", name("on", 0), name("message", 3), sign("{", 11),
		name("x", 14), sign("[", 15), number(10, 16), sign("]", 18), sign("=", 20), name("value", 22), sign(";", 27), sign("}", 29))
	wantError(t, "x1<=07", 4, api.ErrSyntax)
}

// P1.2: the limits, which include their own values.
func TestP1_2Limits(t *testing.T) {
	long := strings.Repeat("n", api.MaxName)
	wantTokens(t, "; "+long, sign(";", 0), name(long, 2))
	wantError(t, "; "+long+"1", 2, api.ErrTooLong)
	wantError(t, "; _"+long+" ?", 2, api.ErrTooLong)
	wantTokens(t, strings.Repeat(" ", api.MaxText-1)+"7", number(7, api.MaxText-1))
	wantTokens(t, "7#"+strings.Repeat("x", api.MaxText-2), number(7, 0))
	wantError(t, strings.Repeat(" ", api.MaxText+1), 0, api.ErrTooLong)
	wantError(t, "#"+strings.Repeat("x", api.MaxText), 0, api.ErrTooLong)
}

// P1.2: the order of errors.
func TestP1_2Order(t *testing.T) {
	long := strings.Repeat("n", api.MaxName+1)
	great := "9223372036854775808"
	wantError(t, "; ?"+strings.Repeat(" ", api.MaxText), 0, api.ErrTooLong)
	wantError(t, great+"x", 0, api.ErrSyntax)
	wantError(t, " "+great+"_", 1, api.ErrSyntax)
	wantError(t, great+" ? "+long, 0, api.ErrRange)
	wantError(t, long+" ? "+great, 0, api.ErrTooLong)
	wantError(t, "a ? "+long+" "+great, 2, api.ErrSyntax)
	wantError(t, "a # ?\n 1 "+great, 9, api.ErrRange)
}

var anyToken = regexp.MustCompile(`^(?:([A-Za-z_][A-Za-z_0-9]*)|(0|[1-9][0-9]*)|(==|!=|<=|>=|&&|\|\||[(){}\[\],;=<>+*/%!-]))`)
var between = regexp.MustCompile(`^(?:[\t\n\r ]|#[^\n]*)+`)
var word = regexp.MustCompile(`^[A-Za-z_0-9]`)

// rules is Scan by the letter of P1.1 and P1.2.
func rules(text string) ([]api.Token, int, api.Errno) {
	var l []api.Token
	for at := 0; ; {
		at += len(between.FindString(text[at:]))
		if at == len(text) {
			return l, 0, api.OK
		}
		m := anyToken.FindStringSubmatch(text[at:])
		switch {
		case m == nil:
			return nil, at, api.ErrSyntax
		case m[1] != "":
			if len(m[1]) > api.MaxName {
				return nil, at, api.ErrTooLong
			}
			l = append(l, name(m[1], at))
		case m[2] != "":
			if word.MatchString(text[at+len(m[2]):]) {
				return nil, at, api.ErrSyntax
			}
			v, err := strconv.ParseInt(m[2], 10, 64)
			if err != nil {
				return nil, at, api.ErrRange
			}
			l = append(l, number(int(v), at))
		default:
			l = append(l, sign(m[3], at))
		}
		at += len(m[0])
	}
}

func wantRules(t *testing.T, text string) {
	t.Helper()
	l, at, e := token.Scan(text)
	wl, wat, we := rules(text)
	if !slices.Equal(l, wl) || at != wat || e != we {
		t.Errorf("Scan(%q) = %v, %d, %d, want %v, %d, %d", text, l, at, e, wl, wat, we)
	}
}

// P1.1 and P1.2: all texts of up to four bytes that stand for all others.
func TestP1_2ShortTexts(t *testing.T) {
	const alphabet = "aZ_09=!<&|+(#\n ?\x00\xff"
	texts := []string{""}
	for range 4 {
		var longer []string
		for _, s := range texts {
			for i := range len(alphabet) {
				longer = append(longer, s+alphabet[i:i+1])
			}
		}
		for _, s := range longer {
			wantRules(t, s)
			if t.Failed() {
				return
			}
		}
		texts = longer
	}
}

// pieces returns tokens, blanks and comments in some order, with some rubbish if bad.
func pieces(r *rand.Rand, bad bool) string {
	good := slices.Concat(signs, reserved, []string{"x", "_9", "Abc", strings.Repeat("n", 16), "0", "10", "9223372036854775807", " ", "\t", "\r", "\n", "# c\n", "#\n"})
	rubbish := []string{"?", "&", "|", "\xff", "00", "1a", strings.Repeat("m", 17), "9223372036854775808", "#", "\""}
	var b strings.Builder
	for range r.Intn(30) {
		if bad && r.Intn(15) == 0 {
			b.WriteString(rubbish[r.Intn(len(rubbish))])
		} else {
			b.WriteString(good[r.Intn(len(good))])
		}
		if r.Intn(3) > 0 {
			b.WriteByte(' ')
		}
	}
	return b.String()
}

// P1.1 and P1.2: longer texts.
func TestP1_2LongTexts(t *testing.T) {
	r := rand.New(rand.NewSource(1))
	for i := range 20000 {
		wantRules(t, pieces(r, i%2 == 0))
		if t.Failed() {
			return
		}
	}
}

// P1.3: what is printed of each kind.
func TestP1_3Print(t *testing.T) {
	for _, x := range []struct {
		l    []api.Token
		want string
	}{
		{nil, ""},
		{[]api.Token{}, ""},
		{[]api.Token{name("x", 5)}, "x"},
		{[]api.Token{name("x", 5), sign("=", 0), number(10, 2), sign(";", -1)}, "x = 10 ;"},
		{[]api.Token{{Kind: api.Name, Text: "n", Value: 3}, {Kind: api.Sign, Text: "<", Value: 4}, {Kind: api.Number, Text: "n", Value: 5}}, "n < 5"},
		{[]api.Token{number(math.MaxInt64, 0), number(-1, 0), number(math.MinInt64, 0), number(0, 0)}, "9223372036854775807 0 0 0"},
		{[]api.Token{{Kind: 0, Text: "a", Value: 1}}, ""},
		{[]api.Token{{Kind: 4, Text: "a"}, {Kind: -1, Value: 1}, name("b", 0), {Kind: math.MaxInt}}, "  b "},
		{[]api.Token{name("", 0), sign("", 0), name("a b", 0), sign("\xff#", 0)}, "  a b \xff#"},
	} {
		if s := token.Print(x.l); s != x.want {
			t.Errorf("Print(%v) = %q, want %q", x.l, s, x.want)
		}
	}
}

// P1.3 and R2: the list stays as it is.
func TestP1_3Pure(t *testing.T) {
	l := []api.Token{name("a", 0), number(-1, 2), sign("+", 4)}
	before := slices.Clone(l)
	if s := token.Print(l[:2]); s != "a 0" || !slices.Equal(l, before) {
		t.Errorf("Print = %q, and the list is %v, want %v", s, l, before)
	}
}

// P1.4: the reserved words, and no others.
func TestP1_4Reserved(t *testing.T) {
	for _, w := range reserved {
		if !token.Reserved(w) || token.Valid(w) {
			t.Errorf("%q is not reserved", w)
		}
		for _, s := range []string{w + "s", w[1:], w[:len(w)-1], strings.ToUpper(w), " " + w, w + " ", w + "\x00"} {
			if token.Reserved(s) {
				t.Errorf("%q is reserved", s)
			}
		}
	}
	for _, s := range []string{"", "main", "proc", "_", "=="} {
		if token.Reserved(s) {
			t.Errorf("%q is reserved", s)
		}
	}
}

// P1.4: the texts that are valid names are the ones that Scan takes for one name.
func TestP1_4Valid(t *testing.T) {
	texts := []string{"", "a", "_", "__", "Z9", "a_1", "Var", "ifs", "_if", "1", "1a", "a b", " a", "a ", "a#", "#a", "a-b", "a\n", "a\x00", "\u00e9", "a\u00e9", "a\xff", strings.Repeat("n", api.MaxName), strings.Repeat("n", api.MaxName+1), strings.Repeat("n", api.MaxText+1)}
	for i := range 256 {
		s := string([]byte{byte(i)})
		texts = append(texts, s, "a"+s, s+"a")
	}
	form := regexp.MustCompile(`^[A-Za-z_][A-Za-z_0-9]{0,15}$`)
	for _, s := range texts {
		want := form.MatchString(s)
		if token.Valid(s) != want {
			t.Errorf("Valid(%q) = %v", s, !want)
		}
		l, _, _ := token.Scan(s)
		if one := len(l) == 1 && l[0] == name(s, 0); one != want {
			t.Errorf("Scan(%q) = %v, but Valid is %v", s, l, want)
		}
	}
}

func places(l []api.Token) []api.Token {
	l = slices.Clone(l)
	for i := range l {
		l[i].At = 0
	}
	return l
}

// P1.5: what is printed is scanned again.
func TestP1_5Again(t *testing.T) {
	r := rand.New(rand.NewSource(2))
	texts := []string{"", "a==!b # c", "< =", "= =", "1 2", "a 1", "-1", "#"}
	for range 5000 {
		texts = append(texts, pieces(r, false))
	}
	found := 0
	for _, text := range texts {
		l, _, e := token.Scan(text)
		if e != api.OK {
			continue
		}
		found += len(l)
		p := token.Print(l)
		again, at, e := token.Scan(p)
		if !slices.Equal(places(again), places(l)) || at != 0 || e != api.OK {
			t.Fatalf("Scan(%q) = %v, %d, %d, want %v", p, again, at, e, l)
		}
	}
	if found < 1000 {
		t.Errorf("only %d tokens", found)
	}
}

// P1.5: unless it has too many bytes.
func TestP1_5TooLong(t *testing.T) {
	for _, n := range []int{api.MaxText / 2, api.MaxText/2 + 1, api.MaxText} {
		l, _, e := token.Scan(strings.Repeat(";", n))
		if len(l) != n || e != api.OK {
			t.Fatalf("%d tokens, %d, want %d", len(l), e, n)
		}
		p := token.Print(l)
		if len(p) != 2*n-1 {
			t.Fatalf("%d bytes, want %d", len(p), 2*n-1)
		}
		again, _, e := token.Scan(p)
		if len(p) <= api.MaxText && (e != api.OK || !slices.Equal(places(again), places(l))) || len(p) > api.MaxText && e != api.ErrTooLong {
			t.Errorf("%d bytes: %d tokens, %d", len(p), len(again), e)
		}
	}
}

// P1.5: what stands between tokens changes nothing but their places.
func TestP1_5Between(t *testing.T) {
	l, _, e := token.Scan("if(x<=10){send from,-x*2;}else{a[self]=value%3||!y;}")
	if e != api.OK {
		t.Fatal(e)
	}
	for _, gap := range []string{" ", "\t", "\r", "\n", "\r\n\t ", "#\n", "# if (x & ?\n", " # \xff\x00\n\n#a\n", "##\n"} {
		var b strings.Builder
		var want []api.Token
		for _, x := range l {
			b.WriteString(gap)
			x.At = b.Len()
			want = append(want, x)
			b.WriteString(token.Print([]api.Token{x}))
		}
		wantTokens(t, b.String()+gap, want...)
		wantTokens(t, b.String()+gap+"# the end", want...)
	}
}

func ExampleScan() {
	l, at, e := token.Scan("a==!b # c")
	fmt.Println(len(l), at, e == api.OK, token.Print(l))
	_, at, e = token.Scan("x1<=07")
	fmt.Println(at, e == api.ErrSyntax)
	// Output:
	// 4 0 true a == ! b
	// 4 true
}
