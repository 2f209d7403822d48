package codec_test

import (
	"bytes"
	"fmt"
	"math"
	"math/big"
	"math/rand"
	"reflect"
	"strings"
	"testing"

	"rollbacknet/api"
	"rollbacknet/codec"
)

const (
	least    = math.MinInt64
	greatest = math.MaxInt64
)

// odd are numbers with which a function can go wrong.
var odd = []int{least, least + 1, -1 << 62, -1<<62 - 1, -1 << 32, -8193, -8192, -65, -64, -2, -1, 63, 64, 127, 128, 8191, 8192, 1 << 32, 1<<62 - 1, 1 << 62, greatest - 1, greatest}

// event is an event of which each number is another one.
var event = api.Event{Kind: 1, Inc: 2, From: 3, Sent: api.Label{Inc: 4, Index: 5}, Ord: 6, Value: -7}

// kind is a kind of values: the functions of the package for it, and what reads and makes it here.
type kind struct {
	name    string
	put     func(b []byte, v any) []byte
	read    func(b []byte, at int) (any, int, api.Errno)
	byRules func(b []byte, at int) (any, int, api.Errno)
	some    func(m maker) any
}

func newKind[T any](name string, put func([]byte, T) []byte, read func([]byte, int) (T, int, api.Errno), some func(m maker) T) kind {
	return kind{
		name:    name,
		put:     func(b []byte, v any) []byte { return put(b, v.(T)) },
		read:    func(b []byte, at int) (any, int, api.Errno) { v, next, e := read(b, at); return v, next, e },
		byRules: func(b []byte, at int) (any, int, api.Errno) { v, next, e := readByRules[T](b, at); return v, next, e },
		some:    func(m maker) any { return some(m) },
	}
}

// kinds lists all kinds of values.
func kinds() []kind {
	return []kind{
		newKind("Int", codec.PutInt, codec.Int, maker.value),
		newKind("Event", codec.PutEvent, codec.Event, maker.event),
		newKind("Det", codec.PutDet, codec.Det, maker.det),
		newKind("Pages", codec.PutPages, codec.Pages, maker.pages),
		newKind("State", codec.PutState, codec.State, maker.state),
	}
}

// numberBytes is P8.1: the digits of u(v) are written to the base 2 and cut into groups of seven from their end on.
func numberBytes(v int) string {
	u := new(big.Int).Mul(big.NewInt(2), big.NewInt(int64(v)))
	if v < 0 {
		u.Neg(u).Sub(u, big.NewInt(1))
	}
	digits := u.Text(2)
	digits = strings.Repeat("0", (7-len(digits)%7)%7) + digits
	var b []byte
	for len(digits) > 0 {
		mark := "1"
		if len(digits) == 7 {
			mark = "0"
		}
		group, _ := new(big.Int).SetString(mark+digits[len(digits)-7:], 2)
		b = append(b, byte(group.Uint64()))
		digits = digits[:len(digits)-7]
	}
	return string(b)
}

// numbers is P8.2: the numbers of a value. The fields of package api are declared in the order in which they are written.
func numbers(v reflect.Value) []int {
	var l []int
	switch v.Kind() {
	case reflect.Int:
		l = append(l, int(v.Int()))
	case reflect.Slice:
		l = append(l, v.Len())
		for i := range v.Len() {
			l = append(l, numbers(v.Index(i))...)
		}
	case reflect.Struct:
		for i := range v.NumField() {
			l = append(l, numbers(v.Field(i))...)
		}
	}
	return l
}

// bytesByRules is what a function Put.. writes for a value.
func bytesByRules(v any) string {
	var s strings.Builder
	for _, n := range numbers(reflect.ValueOf(v)) {
		s.WriteString(numberBytes(n))
	}
	return s.String()
}

// readByRules is P8.4.
func readByRules[T any](b []byte, at int) (T, int, api.Errno) {
	var v, zero T
	if at < 0 || at > len(b) {
		return zero, 0, api.ErrRange
	}
	rest, e := fill(reflect.ValueOf(&v).Elem(), b[at:])
	if e != api.OK {
		return zero, 0, e
	}
	return v, len(b) - len(rest), api.OK
}

// fill reads a value from the beginning of b; it returns the rest.
func fill(v reflect.Value, b []byte) (rest []byte, e api.Errno) {
	switch v.Kind() {
	case reflect.Int:
		n, rest, e := numberByRules(b)
		v.SetInt(int64(n))
		return rest, e
	case reflect.Struct:
		for i := 0; i < v.NumField() && e == api.OK; i++ {
			b, e = fill(v.Field(i), b)
		}
		return b, e
	}
	n, b, e := numberByRules(b)
	if e == api.OK && (n < 0 || n > len(b)) {
		e = api.ErrForm
	}
	for i := 0; i < n && e == api.OK; i++ {
		element := reflect.New(v.Type().Elem()).Elem()
		b, e = fill(element, b)
		v.Set(reflect.Append(v, element))
	}
	return b, e
}

// numberByRules reads a number; it sums up its groups in a memory without an end.
func numberByRules(b []byte) (int, []byte, api.Errno) {
	u, weight := new(big.Int), big.NewInt(1)
	for i, c := range b {
		if i == 9 && c > 1 || i > 0 && c == 0 {
			return 0, nil, api.ErrForm
		}
		u.Add(u, new(big.Int).Mul(weight, big.NewInt(int64(c%128))))
		weight.Mul(weight, big.NewInt(128))
		if c < 128 {
			negative := u.Bit(0) == 1
			if negative {
				u.Add(u, big.NewInt(1)).Neg(u)
			}
			return int(u.Quo(u, big.NewInt(2)).Int64()), b[i+1:], api.OK
		}
	}
	return 0, nil, api.ErrShort
}

// text writes a value; nil and empty lists are the same.
func text(v any) string { return fmt.Sprintf("%+v", v) }

// wantRead tests what reading returns against the rules; it returns the error.
func wantRead(t *testing.T, k kind, b []byte, at int) api.Errno {
	t.Helper()
	v, next, e := k.read(b, at)
	want, behind, wrong := k.byRules(b, at)
	if next != behind || e != wrong || text(v) != text(want) {
		t.Errorf("%s(%q, %d) = %+v, %d, %d, want %+v, %d, %d", k.name, b, at, v, next, e, want, behind, wrong)
	}
	if e == api.OK && string(k.put(nil, v)) != string(b[at:next]) {
		t.Errorf("%s(%q, %d) = %+v, which is written %q", k.name, b, at, v, k.put(nil, v))
	}
	return e
}

// wantMet tests that each sort of input was met often enough.
func wantMet(t *testing.T, met map[string]int, times int, what ...string) {
	t.Helper()
	for _, w := range what {
		if met[w] < times {
			t.Errorf("only %d inputs of the sort %q", met[w], w)
		}
	}
}

// strung returns all strings of up to n of some bytes.
func strung(some string, n int) []string {
	l := []string{""}
	for i := 0; len(l[i]) < n; i++ {
		for _, c := range []byte(some) {
			l = append(l, l[i]+string([]byte{c}))
		}
	}
	return l
}

// roomy copies bytes, with spare ones behind them.
func roomy(b string) []byte {
	return append(append(make([]byte, 0, len(b)+400), b...), bytes.Repeat([]byte{0xee}, 300)...)[:len(b)]
}

// room returns bytes with the spare ones behind them.
func room(b []byte) string { return string(b[:cap(b)]) }

// spoil changes each number of a value that can be changed, and what lies behind its lists.
func spoil(v reflect.Value) {
	switch v.Kind() {
	case reflect.Int:
		if v.CanSet() {
			v.SetInt(-1000)
		}
	case reflect.Slice:
		v = v.Slice(0, v.Cap())
		for i := range v.Len() {
			spoil(v.Index(i))
		}
	case reflect.Struct:
		for i := range v.NumField() {
			spoil(v.Field(i))
		}
	}
}

// maker makes values at random.
type maker struct{ *rand.Rand }

func newMaker(seed int64) maker { return maker{rand.New(rand.NewSource(seed))} }

// value returns a small number, mostly, or one of any length.
func (m maker) value() int {
	switch m.Intn(8) {
	case 0:
		return odd[m.Intn(len(odd))]
	case 1:
		return int(m.Uint64()) >> m.Intn(64)
	}
	return m.Intn(9) - 2
}

func (m maker) values() []int {
	l := make([]int, m.Intn(6))
	for i := range l {
		l[i] = m.value()
	}
	return l
}

func (m maker) event() api.Event {
	return api.Event{Kind: m.value(), Inc: m.value(), From: m.value(), Sent: api.Label{Inc: m.value(), Index: m.value()}, Ord: m.value(), Value: m.value()}
}

func (m maker) det() api.Det {
	return api.Det{Proc: m.value(), Index: m.value(), Event: m.event()}
}

func (m maker) pages() []api.Page {
	l := make([]api.Page, m.Intn(5))
	for i := range l {
		l[i] = api.Page{Number: m.value(), Cells: m.values()}
	}
	return l
}

// state returns any state: its lists need not fit together.
func (m maker) state() api.State {
	s := api.State{Cells: m.values()}
	for range m.Intn(4) {
		s.Events = append(s.Events, m.event())
	}
	for range m.Intn(4) {
		s.Sent = append(s.Sent, api.Send{Index: m.value(), Ord: m.value(), To: m.value(), Value: m.value()})
	}
	for range m.Intn(4) {
		s.Outputs = append(s.Outputs, api.Output{Index: m.value(), Value: m.value()})
	}
	return s
}

func (m maker) bytes(n int) string {
	b := make([]byte, n)
	m.Read(b)
	return string(b)
}

// damaged changes bytes somewhere: some are taken out, changed or added.
func (m maker) damaged(b string) string {
	at := m.Intn(len(b) + 1)
	switch m.Intn(4) {
	case 0:
		return b[:at]
	case 1:
		return b[:at] + m.bytes(1) + b[at:]
	case 2:
		return b[:at] + m.bytes(m.Intn(3)) + b[min(at+1, len(b)):]
	}
	return b[:at] + string([]byte{"\x00\x01\x02\x04\x7f\x80\x81\xff"[m.Intn(8)]}) + b[min(at+1, len(b)):]
}
