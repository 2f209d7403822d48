package codec

import "rollbacknet/api"

// more is the bit of a byte that says that its number goes on.
const more = 1 << 7

// The functions of this file append to b in its own memory.

func putNumber(b []byte, v int) []byte {
	// The shift to the right leaves only copies of the sign, which turn the bits of a negative number around: 2v becomes -2v - 1.
	u := uint64(v)<<1 ^ uint64(v>>63)
	for ; u >= more; u >>= 7 {
		b = append(b, byte(u)|more)
	}
	return append(b, byte(u))
}

func putNumbers(b []byte, l ...int) []byte {
	for _, v := range l {
		b = putNumber(b, v)
	}
	return b
}

// putList writes the number of elements, and these.
func putList[T any](b []byte, l []T, put func([]byte, T) []byte) []byte {
	b = putNumber(b, len(l))
	for _, v := range l {
		b = put(b, v)
	}
	return b
}

func putEvent(b []byte, e api.Event) []byte {
	return putNumbers(b, e.Kind, e.Inc, e.From, e.Sent.Inc, e.Sent.Index, e.Ord, e.Value)
}

func putDet(b []byte, d api.Det) []byte {
	return putEvent(putNumbers(b, d.Proc, d.Index), d.Event)
}

func putPage(b []byte, p api.Page) []byte {
	return putList(putNumber(b, p.Number), p.Cells, putNumber)
}

func putSend(b []byte, s api.Send) []byte {
	return putNumbers(b, s.Index, s.Ord, s.To, s.Value)
}

func putOutput(b []byte, o api.Output) []byte {
	return putNumbers(b, o.Index, o.Value)
}

func putState(b []byte, s api.State) []byte {
	b = putList(b, s.Cells, putNumber)
	b = putList(b, s.Events, putEvent)
	b = putList(b, s.Sent, putSend)
	return putList(b, s.Outputs, putOutput)
}
