package codec

import "rollbacknet/api"

// reader reads the bytes from the offset at on.
type reader struct {
	b  []byte
	at int
}

// failure is thrown where there is no value.
type failure struct{ e api.Errno }

// read returns the value at an offset and the offset behind it, or the error that was thrown.
func read[T any](b []byte, at int, value func(*reader) T) (v T, behind int, e api.Errno) {
	if at < 0 || at > len(b) {
		return v, 0, api.ErrRange
	}
	defer func() {
		switch thrown := recover().(type) {
		case nil:
		case failure:
			e = thrown.e
		default:
			panic(thrown)
		}
	}()
	r := &reader{b, at}
	v = value(r)
	return v, r.at, api.OK
}

// next takes a byte.
func (r *reader) next() byte {
	if r.at == len(r.b) {
		panic(failure{api.ErrShort})
	}
	c := r.b[r.at]
	r.at++
	return c
}

func number(r *reader) int {
	var u uint64
	for shift := 0; ; shift += 7 {
		c := r.next()
		// The tenth byte has only the highest one of 64 bits; a last byte 0 could be left out.
		if shift == 63 && c > 1 || shift > 0 && c == 0 {
			panic(failure{api.ErrForm})
		}
		u |= uint64(c&^more) << shift
		if c < more {
			return int(u>>1) ^ -int(u&1)
		}
	}
}

// list reads the number of elements, and these. The memory grows with what was read, and not by a number that may be wrong.
func list[T any](r *reader, element func(*reader) T) []T {
	n := number(r)
	if n < 0 || n > len(r.b)-r.at {
		panic(failure{api.ErrForm})
	}
	var l []T
	for range n {
		l = append(l, element(r))
	}
	return l
}

// In the literals below the numbers are read in the order in which they are written there, as Go evaluates calls.

func event(r *reader) api.Event {
	return api.Event{
		Kind:  number(r),
		Inc:   number(r),
		From:  number(r),
		Sent:  api.Label{Inc: number(r), Index: number(r)},
		Ord:   number(r),
		Value: number(r),
	}
}

func det(r *reader) api.Det {
	return api.Det{Proc: number(r), Index: number(r), Event: event(r)}
}

func page(r *reader) api.Page {
	return api.Page{Number: number(r), Cells: list(r, number)}
}

func pages(r *reader) []api.Page { return list(r, page) }

func send(r *reader) api.Send {
	return api.Send{Index: number(r), Ord: number(r), To: number(r), Value: number(r)}
}

func output(r *reader) api.Output {
	return api.Output{Index: number(r), Value: number(r)}
}

func state(r *reader) api.State {
	return api.State{
		Cells:   list(r, number),
		Events:  list(r, event),
		Sent:    list(r, send),
		Outputs: list(r, output),
	}
}
