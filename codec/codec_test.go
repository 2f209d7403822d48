package codec_test

import (
	"bytes"
	"fmt"
	"reflect"
	"strings"
	"testing"

	"rollbacknet/api"
	"rollbacknet/codec"
)

// P8.1: written numbers.
func TestP8_1Written(t *testing.T) {
	for v, want := range map[int]string{
		0: "\x00", -1: "\x01", 1: "\x02", -2: "\x03", 2: "\x04",
		// The last numbers of one byte, and the first ones of two.
		63: "\x7e", -64: "\x7f", 64: "\x80\x01", -65: "\x81\x01", 65: "\x82\x01",
		127: "\xfe\x01", -128: "\xff\x01", 128: "\x80\x02", 300: "\xd8\x04",
		8191: "\xfe\x7f", -8192: "\xff\x7f", 8192: "\x80\x80\x01", -8193: "\x81\x80\x01",
		1 << 31: "\x80\x80\x80\x80\x10", -1 << 31: "\xff\xff\xff\xff\x0f",
		// Nine bytes, and ten.
		1<<62 - 1: "\xfe\xff\xff\xff\xff\xff\xff\xff\x7f", -1 << 62: "\xff\xff\xff\xff\xff\xff\xff\xff\x7f",
		1 << 62: "\x80\x80\x80\x80\x80\x80\x80\x80\x80\x01", -1<<62 - 1: "\x81\x80\x80\x80\x80\x80\x80\x80\x80\x01",
		greatest: "\xfe\xff\xff\xff\xff\xff\xff\xff\xff\x01", least: "\xff\xff\xff\xff\xff\xff\xff\xff\xff\x01",
	} {
		if b := codec.PutInt(nil, v); string(b) != want {
			t.Errorf("PutInt(%d) = %q, want %q", v, b, want)
		}
		if got, next, e := codec.Int([]byte(want), 0); got != v || next != len(want) || e != api.OK {
			t.Errorf("Int(%q) = %d, %d, %d, want %d", want, got, next, e, v)
		}
	}
}

// P8.1: numbers around each power of two, and any numbers, with as few bytes as their bits need.
func TestP8_1Any(t *testing.T) {
	var l []int
	for shift := range 64 {
		for d := -2; d <= 2; d++ {
			l = append(l, 1<<shift+d, -1<<shift+d)
		}
	}
	m := newMaker(1)
	for range 20000 {
		l = append(l, m.value(), int(m.Uint64()))
	}
	lengths := map[string]int{}
	for _, v := range l {
		b := codec.PutInt(nil, v)
		if want := numberBytes(v); string(b) != want {
			t.Errorf("PutInt(%d) = %q, want %q", v, b, want)
		}
		if got, next, e := codec.Int(b, 0); got != v || next != len(b) || e != api.OK {
			t.Errorf("Int(%q) = %d, %d, %d, want %d", b, got, next, e, v)
		}
		lengths[fmt.Sprint(len(b))]++
	}
	wantMet(t, lengths, 10, "1", "2", "3", "4", "5", "6", "7", "8", "9", "10")
}

// P8.2: the numbers of each value, in their order.
func TestP8_2Written(t *testing.T) {
	const eventBytes = "\x02\x04\x06\x08\x0a\x0c\x0d"
	other := api.Event{Kind: -1, Sent: api.Label{Index: 64}, Value: 1}
	const otherBytes = "\x01\x00\x00\x00\x80\x01\x00\x02"
	for _, x := range []struct {
		kind int
		v    any
		want string
	}{
		{1, event, eventBytes},
		{1, other, otherBytes},
		{1, api.Event{}, "\x00\x00\x00\x00\x00\x00\x00"},
		{2, api.Det{Proc: 8, Index: 9, Event: event}, "\x10\x12" + eventBytes},
		{2, api.Det{Proc: -2, Index: 128}, "\x03\x80\x02\x00\x00\x00\x00\x00\x00\x00"},
		{3, []api.Page(nil), "\x00"},
		{3, []api.Page{}, "\x00"},
		{3, []api.Page{{}}, "\x02\x00\x00"},
		{3, []api.Page{{Number: 5, Cells: []int{6}}}, "\x02\x0a\x02\x0c"},
		{3, []api.Page{{Number: 2, Cells: []int{1, -1, 64}}, {Number: 1}, {Number: -1, Cells: []int{0}}}, "\x06\x04\x06\x02\x01\x80\x01\x02\x00\x01\x02\x00"},
		{4, api.State{}, "\x00\x00\x00\x00"},
		{4, api.State{Cells: []int{}, Events: []api.Event{}, Sent: []api.Send{}, Outputs: []api.Output{}}, "\x00\x00\x00\x00"},
		{4, api.State{Cells: []int{7, -7}}, "\x04\x0e\x0d\x00\x00\x00"},
		{4, api.State{Events: []api.Event{other, event}}, "\x00\x04" + otherBytes + eventBytes + "\x00\x00"},
		{4, api.State{Sent: []api.Send{{Index: 1, Ord: 2, To: 3, Value: 4}, {}}}, "\x00\x00\x04\x02\x04\x06\x08\x00\x00\x00\x00\x00"},
		{4, api.State{Outputs: []api.Output{{Index: 1, Value: 2}, {Value: -1}}}, "\x00\x00\x00\x04\x02\x04\x00\x01"},
		{4, api.State{Cells: []int{1}, Events: []api.Event{event}, Sent: []api.Send{{Index: 5, Ord: 6, To: 7, Value: 8}}, Outputs: []api.Output{{Index: 9, Value: 10}}},
			"\x02\x02\x02" + eventBytes + "\x02\x0a\x0c\x0e\x10\x02\x12\x14"},
	} {
		k := kinds()[x.kind]
		if b := k.put(nil, x.v); string(b) != x.want {
			t.Errorf("%s %+v is written %q, want %q", k.name, x.v, b, x.want)
		}
		if v, next, e := k.read([]byte(x.want), 0); text(v) != text(x.v) || next != len(x.want) || e != api.OK {
			t.Errorf("%s(%q) = %+v, %d, %d, want %+v", k.name, x.want, v, next, e, x.v)
		}
	}
}

// P8.2: any values, also with numbers of elements that need two bytes.
func TestP8_2Any(t *testing.T) {
	m := newMaker(2)
	for _, k := range kinds() {
		for range 3000 {
			v := k.some(m)
			if b := k.put(nil, v); string(b) != bytesByRules(v) {
				t.Errorf("%s %+v is written %q, want %q", k.name, v, b, bytesByRules(v))
			}
		}
	}
	for _, n := range []int{63, 64, 65, 127, 128, 129, 8191, 8192} {
		s := api.State{Cells: make([]int, n), Events: make([]api.Event, n+1), Sent: make([]api.Send, n+2), Outputs: make([]api.Output, n+3)}
		b := codec.PutState(nil, s)
		if string(b) != bytesByRules(s) {
			t.Errorf("a state with lists of %d to %d elements is written with %d bytes, want %d", n, n+3, len(b), len(bytesByRules(s)))
		}
		wantRead(t, kinds()[4], b, 0)
		l := []api.Page{{Cells: make([]int, n)}, {Number: n, Cells: make([]int, n+1)}}
		b = codec.PutPages(nil, append(l, make([]api.Page, n)...))
		if string(b) != numberBytes(n+2)+"\x00"+numberBytes(n)+strings.Repeat("\x00", n)+numberBytes(n)+numberBytes(n+1)+strings.Repeat("\x00", n+1+2*n) {
			t.Errorf("%d pages are written %q", n+2, b)
		}
		wantRead(t, kinds()[3], b, 0)
	}
}

// P8.3: the bytes ahead stay, and the value comes behind them.
func TestP8_3Put(t *testing.T) {
	m := newMaker(3)
	for _, k := range kinds() {
		for _, ahead := range []string{"", "\x00", "\x80", "\xff\xff", "ahead", strings.Repeat("\x80", 100)} {
			for range 100 {
				v := k.some(m)
				if b := k.put([]byte(ahead), v); string(b) != ahead+bytesByRules(v) {
					t.Errorf("%s %+v behind %q is written %q", k.name, v, ahead, b)
				}
				if b := k.put(roomy(ahead), v); string(b) != ahead+bytesByRules(v) {
					t.Errorf("%s %+v behind %q and spare bytes is written %q", k.name, v, ahead, b)
				}
			}
		}
		v := k.some(m)
		if string(k.put(nil, v)) != string(k.put([]byte{}, v)) {
			t.Errorf("%s: nil and no bytes are not the same", k.name)
		}
	}
}

// R2: what is behind b in its memory stays, and so does the value; the results are new memory.
func TestP8_3Pure(t *testing.T) {
	m := newMaker(4)
	for _, k := range kinds() {
		for range 300 {
			v := k.some(m)
			ahead := roomy("ahead")
			before, written := room(ahead), text(v)
			first, second := k.put(ahead, v), k.put(ahead, v)
			want := string(second)
			for i := range first[:cap(first)] {
				first[:cap(first)][i]++
			}
			if string(second) != want || want != "ahead"+bytesByRules(v) {
				t.Errorf("%s %+v is written %q, and shares memory with an earlier result", k.name, v, second)
			}
			if room(ahead) != before || text(v) != written {
				t.Errorf("writing %s %s changes its arguments: %q, %+v", k.name, written, room(ahead), v)
			}
		}
	}
}

// P8.4: at has to be from 0 to the length.
func TestP8_4Range(t *testing.T) {
	for _, k := range kinds() {
		for _, b := range []string{"", "\x00", "\x80", "\x80\x00", strings.Repeat("\x00", 20)} {
			for _, at := range append([]int{-1, -2, -20, len(b) + 1, len(b) + 2, len(b) + 100}, odd...) {
				if at >= 0 && at <= len(b) {
					continue
				}
				if e := wantRead(t, k, roomy(b), at); e != api.ErrRange {
					t.Errorf("%s(%q, %d): %d, want %d", k.name, b, at, e, api.ErrRange)
				}
			}
			if e := wantRead(t, k, roomy(b), len(b)); e != api.ErrShort {
				t.Errorf("%s(%q, %d), at the end: %d", k.name, b, len(b), e)
			}
		}
		if e := wantRead(t, k, nil, 0); e != api.ErrShort {
			t.Errorf("%s of nil: %d", k.name, e)
		}
	}
}

// P8.4: numbers that end too early or do not have the form; the first byte that is wrong decides.
func TestP8_4Number(t *testing.T) {
	eight, nine := strings.Repeat("\x80", 8), strings.Repeat("\xff", 9)
	for _, x := range []struct {
		b string
		e api.Errno
	}{
		{"", api.ErrShort},
		{"\x80", api.ErrShort},
		{"\xff", api.ErrShort},
		{eight, api.ErrShort},
		{nine, api.ErrShort},
		{eight + "\x80", api.ErrShort},
		{"\x00", api.OK},
		{"\x80\x00", api.ErrForm},
		{"\x81\x00", api.ErrForm},
		{"\xff\x80\x00", api.ErrForm},
		{eight + "\x00", api.ErrForm},
		{eight + "\x01", api.OK},
		{eight + "\x7f", api.OK},
		{nine + "\x00", api.ErrForm},
		{nine + "\x01", api.OK},
		{eight + "\x80\x01", api.OK},
		{nine + "\x02", api.ErrForm},
		{nine + "\x03", api.ErrForm},
		{nine + "\x7f", api.ErrForm},
		{nine + "\x80", api.ErrForm},
		{nine + "\x81", api.ErrForm},
		{nine + "\x80\x00", api.ErrForm},
		{nine + "\xff\x01", api.ErrForm},
		// What is behind a number that is wrong or right does not count.
		{"\x80\x00\x80", api.ErrForm},
		{"\x00\x80", api.OK},
		{"\x00\x80\x00", api.OK},
		{"\x01\x00", api.OK},
		{nine + "\x01\x00", api.OK},
	} {
		if e := wantRead(t, kinds()[0], roomy(x.b), 0); e != x.e {
			t.Errorf("Int(%q): %d, want %d", x.b, e, x.e)
		}
		if e := wantRead(t, kinds()[0], roomy("\x80\x80"+x.b), 2); e != x.e {
			t.Errorf("Int(%q) behind two bytes: %d, want %d", x.b, e, x.e)
		}
		for i := 0; i < 9 && x.e != api.OK; i++ {
			// A number of a determinant that is wrong, behind i right ones.
			if e := wantRead(t, kinds()[2], roomy(strings.Repeat("\x00", i)+x.b), 0); e != x.e {
				t.Errorf("Det with %q behind %d numbers: %d, want %d", x.b, i, e, x.e)
			}
		}
	}
}

// P8.4: all numbers of two bytes, and long ones with all bytes at their ends.
func TestP8_4Numbers(t *testing.T) {
	met := map[string]int{}
	for a := range 256 {
		for b := range 256 {
			met[fmt.Sprint(wantRead(t, kinds()[0], []byte{byte(a), byte(b)}, 0))]++
			met[fmt.Sprint(wantRead(t, kinds()[0], []byte{byte(a), byte(b)}, 1))]++
		}
		for n := range 12 {
			for _, c := range []byte("\x00\x01\x02\x7f\x80\xff") {
				for _, ahead := range []string{"\x80", "\xff", "\x81"} {
					l := append([]byte(strings.Repeat(ahead, n)), byte(a), c)
					met[fmt.Sprint(wantRead(t, kinds()[0], l, 0))]++
				}
			}
		}
	}
	wantMet(t, met, 1000, fmt.Sprint(api.OK), fmt.Sprint(api.ErrShort), fmt.Sprint(api.ErrForm))
}

// P8.4: numbers of elements.
func TestP8_4Elements(t *testing.T) {
	const pages, state = 3, 4
	for _, x := range []struct {
		kind int
		b    string
		e    api.Errno
	}{
		// Pages: as many as there are bytes, and one more.
		{pages, "\x00", api.OK},
		{pages, "\x02", api.ErrForm},
		{pages, "\x02\x00", api.ErrShort},
		{pages, "\x02\x00\x00", api.OK},
		{pages, "\x04\x00\x00", api.ErrShort},
		{pages, "\x06\x00\x00", api.ErrForm},
		{pages, "\x06\x00\x00\x00", api.ErrShort},
		{pages, "\x04\x00\x00\x00\x00", api.OK},
		// Negative numbers, and great ones.
		{pages, "\x01", api.ErrForm},
		{pages, "\x01\x00\x00\x00\x00", api.ErrForm},
		{pages, "\x03\x00\x00\x00\x00", api.ErrForm},
		{pages, numberBytes(least) + "\x00\x00", api.ErrForm},
		{pages, numberBytes(greatest) + "\x00\x00", api.ErrForm},
		{pages, numberBytes(1<<32) + "\x00\x00", api.ErrForm},
		{pages, numberBytes(1<<32+1) + "\x00\x00", api.ErrForm},
		{pages, numberBytes(-1<<32) + "\x00\x00", api.ErrForm},
		// The number itself has to be one, and the bytes behind it count, not its own.
		{pages, "\x80", api.ErrShort},
		{pages, "\x82\x00", api.ErrForm},
		{pages, "\x80\x01" + strings.Repeat("\x00", 63), api.ErrForm},
		{pages, "\x80\x01" + strings.Repeat("\x00", 64), api.ErrShort},
		{pages, "\x80\x01" + strings.Repeat("\x00", 127), api.ErrShort},
		{pages, "\x80\x01" + strings.Repeat("\x00", 128), api.OK},
		// Cells of pages.
		{pages, "\x02\x06\x02", api.ErrForm},
		{pages, "\x02\x06\x02\x00", api.OK},
		{pages, "\x02\x06\x04\x00", api.ErrForm},
		{pages, "\x02\x06\x04\x80\x01", api.ErrShort},
		{pages, "\x02\x06\x04\x80\x01\x80\x01", api.OK},
		{pages, "\x02\x06\x01\x00", api.ErrForm},
		{pages, "\x02\x06", api.ErrShort},
		{pages, "\x02\x80", api.ErrShort},
		{pages, "\x02\x80\x00", api.ErrForm},
		// The bytes of further pages are behind the number, too: it is the cells that end too early then.
		{pages, "\x04\x00\x06\x00\x00", api.ErrForm},
		{pages, "\x04\x00\x04\x00\x00", api.ErrShort},
		{pages, "\x04\x00\x04\x00\x00\x00\x00", api.OK},
		// A wrong page ahead of one that ends too early, and the other way around.
		{pages, "\x04\x00\x01\x80", api.ErrForm},
		{pages, "\x04\x00\x00\x80", api.ErrShort},
		{pages, "\x04\x00\x02\x80\x00\x80", api.ErrForm},
		// States: each of the four lists.
		{state, "\x00", api.ErrShort},
		{state, "\x00\x00\x00", api.ErrShort},
		{state, "\x00\x00\x00\x00", api.OK},
		{state, "\x01\x00\x00\x00", api.ErrForm},
		{state, "\x00\x01\x00\x00", api.ErrForm},
		{state, "\x00\x00\x01\x00", api.ErrForm},
		{state, "\x00\x00\x00\x01", api.ErrForm},
		{state, "\x08\x00\x00\x00", api.ErrForm},
		{state, "\x06\x00\x00\x00", api.ErrShort},
		{state, "\x00\x06\x00\x00", api.ErrForm},
		{state, "\x00\x04\x00\x00", api.ErrShort},
		{state, "\x00\x00\x04\x00", api.ErrForm},
		{state, "\x00\x00\x02\x00", api.ErrShort},
		{state, "\x00\x00\x00\x02", api.ErrForm},
		{state, "\x00\x00\x00\x02\x00", api.ErrShort},
		{state, "\x00\x00\x00\x02\x00\x00", api.OK},
		{state, "\x00\x00\x02\x00\x00\x00\x00\x00", api.OK},
		{state, "\x00\x0e\x00\x00\x00\x00\x00\x00\x00", api.ErrShort},
		{state, "\x00\x10\x00\x00\x00\x00\x00\x00\x00", api.ErrForm},
		{state, "\x00\x02\x00\x00\x00\x00\x00\x00\x00\x00\x00", api.OK},
	} {
		k := kinds()[x.kind]
		if e := wantRead(t, k, roomy(x.b), 0); e != x.e {
			t.Errorf("%s(%q): %d, want %d", k.name, x.b, e, x.e)
		}
		if e := wantRead(t, k, roomy("\xff"+x.b), 1); e != x.e {
			t.Errorf("%s(%q) behind a byte: %d, want %d", k.name, x.b, e, x.e)
		}
	}
}

// P8.4: all short strings of some bytes, as each kind of values, alone and ahead of bytes that can end it.
func TestP8_4All(t *testing.T) {
	for _, k := range kinds() {
		met := map[string]int{}
		for _, s := range append(strung("\x00\x01\x02\x04\x80", 6), strung("\x00\x02\x03\x06\x0e\x81\xff", 5)...) {
			met[fmt.Sprint(wantRead(t, k, []byte(s), 0))]++
			met[fmt.Sprint(wantRead(t, k, []byte(s+"\x00\x00\x00\x00\x00\x00\x00\x00\x00"), 0))]++
		}
		wantMet(t, met, 50, fmt.Sprint(api.OK), fmt.Sprint(api.ErrShort), fmt.Sprint(api.ErrForm))
	}
}

// P8.4: written values with damages, read at any offset.
func TestP8_4Damaged(t *testing.T) {
	m := newMaker(5)
	for _, k := range kinds() {
		met := map[string]int{}
		for range 20000 {
			b := string(k.put(nil, k.some(m)))
			for range m.Intn(4) {
				b = m.damaged(b)
			}
			ahead := m.bytes(m.Intn(4))
			met[fmt.Sprint(wantRead(t, k, []byte(ahead+b), len(ahead)))]++
			wantRead(t, k, []byte(ahead+b), m.Intn(len(b)+2))
		}
		wantMet(t, met, 300, fmt.Sprint(api.OK), fmt.Sprint(api.ErrShort), fmt.Sprint(api.ErrForm))
	}
}

// R2: reading leaves the bytes as they are, and its results share memory neither with them nor with others.
func TestP8_4Pure(t *testing.T) {
	m := newMaker(6)
	for _, k := range kinds() {
		for range 300 {
			v := k.some(m)
			b := roomy(string(k.put([]byte("ahead"), v)))
			before := room(b)
			first, _, _ := k.read(b, 5)
			second, _, _ := k.read(b, 5)
			spoil(reflect.ValueOf(first))
			if room(b) != before {
				t.Errorf("%s changes its bytes", k.name)
			}
			for i := range b[:cap(b)] {
				b[:cap(b)][i] = 0x55
			}
			if text(second) != text(v) {
				t.Errorf("%s shares memory: %+v, want %+v", k.name, second, v)
			}
		}
	}
}

// R2: no list of a result reaches into another one, neither by its elements nor by what is appended to them.
func TestP8_4Apart(t *testing.T) {
	l := []api.Page{{Number: 0, Cells: []int{1, 2, 3}}, {Number: 1, Cells: []int{1, 2, 3}}, {Number: 2, Cells: []int{1}}}
	b := codec.PutPages(nil, l)
	for i := range l {
		got, _, _ := codec.Pages(b, 0)
		spoil(reflect.ValueOf(append(got[i].Cells, 77)))
		spoil(reflect.ValueOf(got[i].Cells))
		for j := range l {
			if j != i && text(got[j]) != text(l[j]) {
				t.Errorf("the page %d became %v with the page %d", j, got[j], i)
			}
		}
	}
}

// P8.5: what was written is read, whatever is appended; of fewer bytes nothing is.
func TestP8_5Back(t *testing.T) {
	m := newMaker(7)
	for _, k := range kinds() {
		met := map[string]int{}
		for range 2000 {
			v := k.some(m)
			ahead := m.bytes(m.Intn(20))
			b := k.put([]byte(ahead), v)
			for _, behind := range []string{"", "\x00", "\x80", "\xff\x00", m.bytes(m.Intn(9)), string(b)} {
				all := []byte(string(b) + behind)
				if got, next, e := k.read(all, len(ahead)); text(got) != text(v) || next != len(b) || e != api.OK {
					t.Errorf("%s(%q, %d) = %+v, %d, %d, want %+v, %d", k.name, all, len(ahead), got, next, e, v, len(b))
				}
			}
			for n := len(ahead); n < len(b); n++ {
				e := wantRead(t, k, roomy(string(b[:n])), len(ahead))
				if e != api.ErrShort && e != api.ErrForm || e == api.ErrForm && (k.name == "Int" || k.name == "Event" || k.name == "Det") {
					t.Errorf("%s(%q, %d), without %d bytes: %d", k.name, b[:n], len(ahead), len(b)-n, e)
				}
				met[fmt.Sprint(e)]++
			}
		}
		wantMet(t, met, 1000, fmt.Sprint(api.ErrShort))
		if k.name == "Pages" || k.name == "State" {
			wantMet(t, met, 1000, fmt.Sprint(api.ErrForm))
		}
	}
}

// P8.5: values one behind another are read one behind another.
func TestP8_5Row(t *testing.T) {
	m := newMaker(8)
	for range 500 {
		var b []byte
		var of []kind
		var l []any
		for range 1 + m.Intn(6) {
			k := kinds()[m.Intn(5)]
			v := k.some(m)
			b = k.put(b, v)
			of, l = append(of, k), append(l, v)
		}
		at := 0
		for i, k := range of {
			v, next, e := k.read(b, at)
			if text(v) != text(l[i]) || e != api.OK {
				t.Fatalf("%s(%q, %d) = %+v, %d, want %+v", k.name, b, at, v, e, l[i])
			}
			at = next
		}
		if at != len(b) {
			t.Errorf("%d of %d bytes were read", at, len(b))
		}
	}
}

// P8.5: what is read from any bytes, written again, has the bytes that were read: wantRead looks at that.
func TestP8_5Again(t *testing.T) {
	m := newMaker(9)
	for _, k := range kinds() {
		read := 0
		for range 20000 {
			b := []byte(m.bytes(m.Intn(24)))
			for i := range b {
				b[i] &= "\xff\x7f\x83\x06\x02\x02\x00\x00"[m.Intn(8)]
			}
			if wantRead(t, k, b, 0) == api.OK {
				read++
			}
		}
		if read < 200 {
			t.Errorf("only %d times %s was read", read, k.name)
		}
	}
}

// R10: long values, in a time that grows with them.
func TestP8_5Long(t *testing.T) {
	const n = 1 << 20
	s := api.State{Cells: make([]int, n), Events: make([]api.Event, n/8), Sent: make([]api.Send, n/8), Outputs: make([]api.Output, n/8)}
	for i := range s.Cells {
		s.Cells[i] = i - n/2
	}
	s.Events[n/8-1], s.Outputs[n/8-1] = event, api.Output{Index: least, Value: greatest}
	b := codec.PutState([]byte("ahead"), s)
	got, next, e := codec.State(b, 5)
	if e != api.OK || next != len(b) || len(got.Cells) != n || len(got.Events) != n/8 || len(got.Sent) != n/8 || len(got.Outputs) != n/8 {
		t.Fatalf("a long state: %d of %d bytes, %d", next, len(b), e)
	}
	if got.Cells[n-1] != n/2-1 || got.Events[n/8-1] != event || got.Outputs[n/8-1] != s.Outputs[n/8-1] || !bytes.Equal(codec.PutState([]byte("ahead"), got), b) {
		t.Error("a long state is read as another one")
	}
	if got, next, e := codec.State(b[:len(b)-1], 5); text(got) != text(api.State{}) || next != 0 || e != api.ErrShort {
		t.Errorf("a long state without its last byte: %d, %d", next, e)
	}
	pages := codec.PutPages(nil, make([]api.Page, n))
	if l, next, e := codec.Pages(pages, 0); len(l) != n || next != len(pages) || e != api.OK {
		t.Errorf("%d pages, %d of %d bytes, %d", len(l), next, len(pages), e)
	}
}
