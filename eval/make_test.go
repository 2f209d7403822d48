package eval_test

import (
	"fmt"
	"math"
	"math/big"
	"math/rand"
	"strconv"

	"rollbacknet/api"
)

const (
	least    = math.MinInt64
	greatest = math.MaxInt64
)

// values are numbers with which operators can go wrong.
var values = []int{
	least, least + 1, least + 2, least / 2, -1 << 53, -1<<32 - 1, -1 << 31, -8, -7, -3, -2, -1,
	0, 1, 2, 3, 7, 8, 1 << 31, 1<<32 + 1, 3037000500, 1 << 53, 1 << 62, greatest - 1, greatest,
}

// env has a value of its own in each field.
var env = api.Env{Self: 101, Procs: 102, From: 103, Value: -104}

func number(v int) api.Expr { return api.Expr{Op: api.Const, Value: v} }

func scalar(slot int) api.Expr { return api.Expr{Op: api.Scalar, Slot: slot} }

func apply(op int, args ...api.Expr) api.Expr { return api.Expr{Op: op, Args: args} }

func element(slot, size int, args ...api.Expr) api.Expr {
	return api.Expr{Op: api.Index, Slot: slot, Size: size, Args: args}
}

// isOperator reports whether Apply has a result for an operator.
func isOperator(op int) bool { return op >= api.Neg && op <= api.Or }

// clone copies an expression, with a spare element behind each list.
func clone(e api.Expr) api.Expr {
	args := make([]api.Expr, 0, len(e.Args)+1)
	for _, a := range e.Args {
		args = append(args, clone(a))
	}
	e.Args = args
	return e
}

// show writes all of an expression, with what lies behind its lists.
func show(e api.Expr) string {
	text := fmt.Sprint(e.Op, e.Value, e.Slot, e.Size, e.Name, len(e.Args), "(")
	for _, a := range e.Args[:cap(e.Args)] {
		text += show(a)
	}
	return text + ")"
}

// wrapped returns a number as it wraps around in 64 bits.
func wrapped(x *big.Int) int {
	word := new(big.Int).Lsh(big.NewInt(1), 64)
	x = new(big.Int).Mod(x, word)
	if x.Bit(63) == 1 {
		x.Sub(x, word)
	}
	return int(x.Int64())
}

// bit returns 1 for true and 0 for false.
func bit(holds bool) int { return map[bool]int{true: 1}[holds] }

// exact is Apply with numbers of any length.
func exact(op, a, b int) int {
	x, y, z := big.NewInt(int64(a)), big.NewInt(int64(b)), new(big.Int)
	order := x.Cmp(y)
	switch op {
	case api.Neg:
		z.Neg(x)
	case api.Add:
		z.Add(x, y)
	case api.Sub:
		z.Sub(x, y)
	case api.Mul:
		z.Mul(x, y)
	case api.Div:
		if y.Sign() != 0 {
			z.Quo(x, y)
		}
	case api.Rem:
		if y.Sign() != 0 {
			z.Rem(x, y)
		}
	case api.Not:
		return bit(x.Sign() == 0)
	case api.Less:
		return bit(order == -1)
	case api.Most:
		return bit(order != 1)
	case api.More:
		return bit(order == 1)
	case api.Least:
		return bit(order != -1)
	case api.Same:
		return bit(order == 0)
	case api.Other:
		return bit(order != 0)
	case api.And:
		return bit(x.Sign()*y.Sign() != 0)
	case api.Or:
		return bit(len(x.Bits())+len(y.Bits()) > 0)
	}
	return wrapped(z)
}

// byRules is Value by the words of P4.2: cells are found by numbers of any length, and missing elements of Args are written down as zeros.
func byRules(e api.Expr, cells []int, v api.Env) int {
	named := map[string]int{}
	for i, x := range cells {
		named[strconv.Itoa(i)] = x
	}
	var args []int
	for _, a := range e.Args {
		args = append(args, byRules(a, cells, v))
	}
	args = append(args, 0, 0)
	if isOperator(e.Op) {
		return exact(e.Op, args[0], args[1])
	}
	leaves := map[int]int{
		api.Const: e.Value, api.Scalar: named[strconv.Itoa(e.Slot)],
		api.Self: v.Self, api.Procs: v.Procs, api.From: v.From, api.Value: v.Value,
	}
	if e.Op == api.Index && args[0] >= 0 && args[0] < e.Size {
		sum := new(big.Int).Add(big.NewInt(int64(e.Slot)), big.NewInt(int64(args[0])))
		return named[sum.String()]
	}
	return leaves[e.Op]
}

// maker makes expressions at random.
type maker struct{ *rand.Rand }

func newMaker(seed int64) maker { return maker{rand.New(rand.NewSource(seed))} }

// value returns a small number, mostly, or one with which operators can go wrong.
func (m maker) value() int {
	if m.Intn(4) == 0 {
		return values[m.Intn(len(values))]
	}
	return m.Intn(9) - 2
}

func (m maker) env() api.Env {
	return api.Env{Self: m.value(), Procs: m.value(), From: m.value(), Value: m.value()}
}

func (m maker) cells() []int {
	l := make([]int, m.Intn(9))
	for i := range l {
		l[i] = m.value()
	}
	return l
}

// proper returns an expression that is at most this deep, as Parse and Resolve make it for cells: the cell i is a variable if i is even, and two of them are an array.
func (m maker) proper(deep, cells int) api.Expr {
	leaves := []api.Expr{number(max(0, m.value())), {Op: api.Self}, {Op: api.Procs}, {Op: api.From}, {Op: api.Value}}
	if cells > 0 {
		leaves = append(leaves, scalar(m.Intn(cells)), scalar(m.Intn(cells)))
	}
	if deep <= 1 {
		return leaves[m.Intn(len(leaves))]
	}
	if cells > 1 && m.Intn(5) == 0 {
		return element(m.Intn(cells-1), 2, m.proper(deep-1, cells))
	}
	op := api.Neg + m.Intn(api.Or-api.Neg+1)
	if op == api.Neg || op == api.Not {
		return apply(op, m.proper(deep-1, cells))
	}
	return apply(op, m.proper(deep-1, cells), m.proper(deep-1, cells))
}

// rubbish returns an expression that is at most this deep, with any fields.
func (m maker) rubbish(deep int) api.Expr {
	e := api.Expr{Op: m.Intn(api.Or+4) - 1, Value: m.value(), Slot: m.value(), Size: m.value()}
	if m.Intn(20) == 0 {
		e.Op = m.value()
	}
	e.Name = []string{"", "x", "if", "\x00"}[m.Intn(4)]
	if deep > 1 {
		for range m.Intn(4) {
			e.Args = append(e.Args, m.rubbish(deep-1))
		}
	}
	return e
}
