package image_test

import (
	"fmt"
	"slices"
	"testing"

	"rollbacknet/api"
	"rollbacknet/image"
)

// wantPages tests pages.
func wantPages(t *testing.T, what string, l []api.Page, written string) {
	t.Helper()
	if got := text(l); got != written {
		t.Errorf("%s = %s, want %s", what, got, written)
	}
}

// wantApply tests what Apply returns: cells, or an error and no cells.
func wantApply(t *testing.T, a []int, l []api.Page, b []int, e api.Errno) {
	t.Helper()
	got, wrong := image.Apply(a, l)
	if text(got) != text(b) || wrong != e {
		t.Errorf("Apply(%v, %v) = %v, %d, want %v, %d", a, l, got, wrong, b, e)
	}
}

// wantMet tests that each sort of input was met often enough.
func wantMet(t *testing.T, met map[string]int, times int, sorts ...string) {
	t.Helper()
	for _, what := range sorts {
		if met[what] < times {
			t.Errorf("only %d inputs of the sort %q", met[what], what)
		}
	}
}

// P7.1: a page more with each api.PageSize cells, the last one with the rest.
func TestP7_1Count(t *testing.T) {
	for n, want := range []int{0, 1, 1, 1, 1, 2, 2, 2, 2, 3, 3, 3, 3, 4} {
		if got := image.Count(row(n)); got != want {
			t.Errorf("Count of %d cells = %d, want %d", n, got, want)
		}
	}
	if image.Count(nil) != 0 || image.Count([]int{}) != 0 || image.Count(roomyCells(nil)) != 0 {
		t.Error("no cells have pages")
	}
	for _, v := range odd {
		if got := image.Count([]int{v, v, v, v, v}); got != 2 {
			t.Errorf("Count of 5 cells %d = %d, want 2", v, got)
		}
	}
	for n := range 200 {
		if got, want := image.Count(roomyCells(row(n))), len(pagesByRules(row(n))); got != want {
			t.Errorf("Count of %d cells = %d, want %d", n, got, want)
		}
	}
}

// P7.1 and P7.2: a list that nothing else has is a list of all its pages.
func TestP7_1Pages(t *testing.T) {
	for n, written := range []string{
		"[]", "[{0 [1]}]", "[{0 [1 2]}]", "[{0 [1 2 3]}]", "[{0 [1 2 3 4]}]",
		"[{0 [1 2 3 4]} {1 [5]}]", "[{0 [1 2 3 4]} {1 [5 6]}]", "[{0 [1 2 3 4]} {1 [5 6 7]}]", "[{0 [1 2 3 4]} {1 [5 6 7 8]}]",
		"[{0 [1 2 3 4]} {1 [5 6 7 8]} {2 [9]}]",
	} {
		wantPages(t, fmt.Sprint("the pages of ", n), image.Diff(row(n+1), row(n)), written)
		wantPages(t, fmt.Sprint("the pages of ", n), image.Diff(nil, row(n)), written)
	}
}

// P7.2: the example of the chapter, and what counts as a difference.
func TestP7_2Diff(t *testing.T) {
	for _, x := range []struct {
		a, b []int
		want string
	}{
		{[]int{1, 2, 3, 4, 5}, []int{1, 2, 3, 4, 6}, "[{1 [6]}]"},
		{[]int{1, 2, 3, 4, 5}, []int{1, 2, 3, 4, 5}, "[]"},
		{nil, nil, "[]"},
		{[]int{}, nil, "[]"},
		{nil, []int{}, "[]"},
		{nil, []int{0}, "[{0 [0]}]"},
		{[]int{}, []int{0, 0, 0, 0, 0}, "[{0 [0 0 0 0]} {1 [0]}]"},
		{[]int{0}, nil, "[]"},
		{[]int{7}, []int{7}, "[]"},
		{[]int{7}, []int{8}, "[{0 [8]}]"},
		// The first and the last cell of pages.
		{row(8), []int{0, 2, 3, 4, 5, 6, 7, 8}, "[{0 [0 2 3 4]}]"},
		{row(8), []int{1, 2, 3, 0, 5, 6, 7, 8}, "[{0 [1 2 3 0]}]"},
		{row(8), []int{1, 2, 3, 4, 0, 6, 7, 8}, "[{1 [0 6 7 8]}]"},
		{row(8), []int{1, 2, 3, 4, 5, 6, 7, 0}, "[{1 [5 6 7 0]}]"},
		// Several pages, in ascending order.
		{row(12), []int{0, 2, 3, 4, 5, 6, 7, 8, 9, 10, 0, 0}, "[{0 [0 2 3 4]} {2 [9 10 0 0]}]"},
		{row(9), []int{1, 2, 3, 0, 5, 6, 0, 8, 0}, "[{0 [1 2 3 0]} {1 [5 6 0 8]} {2 [0]}]"},
		// The same cells at other places.
		{[]int{1, 2, 3, 4, 5, 6, 7, 8}, []int{5, 6, 7, 8, 1, 2, 3, 4}, "[{0 [5 6 7 8]} {1 [1 2 3 4]}]"},
		{[]int{1, 2, 3, 4}, []int{2, 1, 3, 4}, "[{0 [2 1 3 4]}]"},
		// Other lengths: all pages, also those that a has.
		{row(4), row(5), "[{0 [1 2 3 4]} {1 [5]}]"},
		{row(5), row(4), "[{0 [1 2 3 4]}]"},
		{row(5), row(6), "[{0 [1 2 3 4]} {1 [5 6]}]"},
		{row(8), row(7), "[{0 [1 2 3 4]} {1 [5 6 7]}]"},
		{row(12), row(4), "[{0 [1 2 3 4]}]"},
		// Numbers that differ in one bit only.
		{[]int{least, 0}, []int{greatest, 0}, "[{0 [9223372036854775807 0]}]"},
		{[]int{0, least}, []int{0, 0}, "[{0 [0 0]}]"},
		{[]int{0, 1 << 32}, []int{0, 0}, "[{0 [0 0]}]"},
	} {
		wantPages(t, fmt.Sprintf("Diff(%v, %v)", x.a, x.b), image.Diff(x.a, x.b), x.want)
	}
}

// P7.2: what lies behind the cells does not count.
func TestP7_2Room(t *testing.T) {
	a := roomyCells(row(6))
	for _, n := range []int{0, 1, 4, 5, 6} {
		wantPages(t, fmt.Sprint("Diff of beginnings of ", n), image.Diff(a[:n], row(n)), "[]")
		wantPages(t, fmt.Sprint("Diff of beginnings of ", n), image.Diff(row(n), a[:n]), "[]")
	}
	wantPages(t, "Diff of a beginning", image.Diff(a[:5], a), "[{0 [1 2 3 4]} {1 [5 6]}]")
	wantPages(t, "Diff with a beginning", image.Diff(a, a[:5]), "[{0 [1 2 3 4]} {1 [5]}]")
}

// P7.2: all pairs of short lists of two values.
func TestP7_2All(t *testing.T) {
	lists := [][]int{nil}
	for i := 0; len(lists[i]) < 7; i++ {
		lists = append(lists, append(slices.Clone(lists[i]), 0), append(slices.Clone(lists[i]), 1))
	}
	for _, a := range lists {
		for _, b := range lists {
			if got, want := text(image.Diff(a, b)), text(diffByRules(a, b)); got != want {
				t.Fatalf("Diff(%v, %v) = %s, want %s", a, b, got, want)
			}
		}
	}
}

// P7.2: lists of any values.
func TestP7_2Any(t *testing.T) {
	m := newMaker(1)
	met := map[string]int{}
	for range 5000 {
		a := m.cells(m.Intn(30))
		b := m.changed(a)
		if m.Intn(4) == 0 {
			b = m.cells(m.Intn(30))
		}
		l := image.Diff(a, b)
		wantPages(t, fmt.Sprintf("Diff(%v, %v)", a, b), l, text(diffByRules(a, b)))
		switch {
		case len(a) != len(b):
			met["lengths"]++
		case len(l) == 0:
			met["none"]++
		case len(l) < image.Count(b):
			met["some"]++
		default:
			met["all"]++
		}
	}
	wantMet(t, met, 200, "lengths", "none", "some", "all")
}

// P7.3: pages replace cells, one after another.
func TestP7_3Apply(t *testing.T) {
	for _, x := range []struct {
		a    []int
		l    []api.Page
		want []int
	}{
		{nil, nil, nil},
		{[]int{}, []api.Page{}, nil},
		{row(6), nil, row(6)},
		{row(6), []api.Page{}, row(6)},
		{[]int{7}, []api.Page{page(0, 8)}, []int{8}},
		{row(4), []api.Page{page(0, 9, 8, 7, 6)}, []int{9, 8, 7, 6}},
		{row(5), []api.Page{page(1, 0)}, []int{1, 2, 3, 4, 0}},
		{row(5), []api.Page{page(0, 9, 9, 9, 9)}, []int{9, 9, 9, 9, 5}},
		{row(8), []api.Page{page(1, 9, 8, 7, 6)}, []int{1, 2, 3, 4, 9, 8, 7, 6}},
		{row(11), []api.Page{page(2, 0, 0, 0), page(0, least, greatest, -1, 0)}, []int{least, greatest, -1, 0, 5, 6, 7, 8, 0, 0, 0}},
		// The last one of several pages with the same number.
		{row(5), []api.Page{page(1, 6), page(1, 7)}, []int{1, 2, 3, 4, 7}},
		{row(5), []api.Page{page(1, 6), page(0, 0, 0, 0, 0), page(1, 7), page(0, 4, 3, 2, 1), page(1, 8)}, []int{4, 3, 2, 1, 8}},
		// A page of what is there already.
		{row(5), []api.Page{page(0, 1, 2, 3, 4), page(1, 5)}, row(5)},
	} {
		wantApply(t, x.a, x.l, x.want, api.OK)
	}
}

// P7.3: the errors of one page: a number that a does not have comes ahead of another number of cells.
func TestP7_3Errors(t *testing.T) {
	for n := range 14 {
		a := row(n)
		pages := pagesByRules(a)
		for number := range 5 {
			for cells := range 7 {
				p := page(number, row(cells)...)
				switch {
				case number >= len(pages):
					wantApply(t, a, []api.Page{p}, nil, api.ErrRange)
				case cells != len(pages[number]):
					wantApply(t, a, []api.Page{p}, nil, api.ErrShape)
				default:
					if _, e := image.Apply(a, []api.Page{p}); e != api.OK {
						t.Errorf("Apply(%v, %v) = %d", a, p, e)
					}
				}
			}
		}
		for _, number := range odd {
			for cells := range 6 {
				wantApply(t, a, []api.Page{page(number, row(cells)...)}, nil, api.ErrRange)
			}
		}
	}
}

// P7.3: the error is that of the first page that has one, and there are no cells with it.
func TestP7_3First(t *testing.T) {
	good, far, shape := page(1, 8, 9), page(2), page(1, 8)
	for _, x := range []struct {
		l []api.Page
		e api.Errno
	}{
		{[]api.Page{far}, api.ErrRange},
		{[]api.Page{shape}, api.ErrShape},
		{[]api.Page{far, shape}, api.ErrRange},
		{[]api.Page{shape, far}, api.ErrShape},
		{[]api.Page{good, far, shape}, api.ErrRange},
		{[]api.Page{good, shape, far}, api.ErrShape},
		{[]api.Page{good, good, good, shape}, api.ErrShape},
		{[]api.Page{good, page(0, 1, 1, 1, 1), page(-1), good}, api.ErrRange},
		{[]api.Page{shape, good}, api.ErrShape},
		{[]api.Page{far, good}, api.ErrRange},
		{[]api.Page{page(0)}, api.ErrShape},
		{[]api.Page{page(0, row(5)...)}, api.ErrShape},
		{[]api.Page{page(1, row(3)...)}, api.ErrShape},
		{[]api.Page{page(1, row(4)...)}, api.ErrShape},
		// A whole page behind the last one, and an empty page at the end.
		{[]api.Page{page(2, row(4)...)}, api.ErrRange},
	} {
		wantApply(t, row(6), x.l, nil, x.e)
	}
	for _, n := range []int{0, 4, 8} {
		wantApply(t, row(n), []api.Page{page(n / 4)}, nil, api.ErrRange)
	}
	if b, e := image.Apply(roomyCells(row(4)), []api.Page{page(1, 1)}); len(b) != 0 || e != api.ErrRange {
		t.Errorf("a page behind the cells: %v, %d", b, e)
	}
}

// P7.3: any pages.
func TestP7_3Any(t *testing.T) {
	m := newMaker(2)
	met := map[string]int{}
	for range 10000 {
		a := m.cells(m.Intn(22))
		l := m.fitting(len(a))
		if m.Intn(2) == 0 {
			l = slices.Concat(l, m.pages(), l)
		}
		b, e := applyByRules(a, l)
		wantApply(t, a, l, b, e)
		met[fmt.Sprint(e)]++
		if e == api.OK && len(l) > len(composeByRules(l, nil)) {
			met["twice"]++
		}
	}
	wantMet(t, met, 500, fmt.Sprint(api.OK), fmt.Sprint(api.ErrRange), fmt.Sprint(api.ErrShape), "twice")
}

// P7.3 with R2: pages that are cut out of the list itself are those that it had ahead of the call.
func TestP7_3Swap(t *testing.T) {
	a := row(8)
	wantApply(t, a, []api.Page{{Number: 0, Cells: a[4:]}, {Number: 1, Cells: a[:4]}}, []int{5, 6, 7, 8, 1, 2, 3, 4}, api.OK)
	wantApply(t, a, []api.Page{{Number: 1, Cells: a[2:6]}, {Number: 0, Cells: a[3:7]}}, []int{4, 5, 6, 7, 3, 4, 5, 6}, api.OK)
	if text(a) != text(row(8)) {
		t.Errorf("the list became %v", a)
	}
}

// P7.4: each number once, in ascending order; the last page of y, or else the last one of x.
func TestP7_4Compose(t *testing.T) {
	for _, x := range []struct {
		x, y []api.Page
		want string
	}{
		{nil, nil, "[]"},
		{[]api.Page{}, []api.Page{}, "[]"},
		{[]api.Page{page(0, 1)}, nil, "[{0 [1]}]"},
		{nil, []api.Page{page(0, 1)}, "[{0 [1]}]"},
		{[]api.Page{page(0, 1)}, []api.Page{page(0, 2)}, "[{0 [2]}]"},
		{[]api.Page{page(0, 1)}, []api.Page{page(1, 2)}, "[{0 [1]} {1 [2]}]"},
		{[]api.Page{page(1, 1)}, []api.Page{page(0, 2)}, "[{0 [2]} {1 [1]}]"},
		{[]api.Page{page(2, 1), page(0, 2), page(1, 3)}, nil, "[{0 [2]} {1 [3]} {2 [1]}]"},
		{nil, []api.Page{page(2, 1), page(0, 2), page(1, 3)}, "[{0 [2]} {1 [3]} {2 [1]}]"},
		{[]api.Page{page(3, 1), page(3, 2), page(3, 3)}, nil, "[{3 [3]}]"},
		{nil, []api.Page{page(3, 1), page(3, 2), page(3, 3)}, "[{3 [3]}]"},
		{[]api.Page{page(3, 1), page(3, 2)}, []api.Page{page(3, 3), page(3, 4)}, "[{3 [4]}]"},
		{[]api.Page{page(3, 1), page(2, 5), page(3, 2)}, []api.Page{page(4, 6), page(2, 3), page(4, 4)}, "[{2 [3]} {3 [2]} {4 [4]}]"},
		// Pages of other lengths, also empty ones, and of numbers that no list has.
		{[]api.Page{page(0, row(4)...)}, []api.Page{page(0)}, "[{0 []}]"},
		{[]api.Page{page(0)}, []api.Page{page(0, row(6)...)}, "[{0 [1 2 3 4 5 6]}]"},
		{[]api.Page{page(0), page(1)}, []api.Page{page(2)}, "[{0 []} {1 []} {2 []}]"},
		{[]api.Page{page(0, 1), page(0)}, nil, "[{0 []}]"},
		{[]api.Page{page(1, 1), page(-1, 2)}, []api.Page{page(0, 3), page(-2, 4)}, "[{-2 [4]} {-1 [2]} {0 [3]} {1 [1]}]"},
		{[]api.Page{page(greatest, 1), page(least, 2), page(10, 3)}, []api.Page{page(9, 4), page(1<<62, 5), page(-1<<62, 6), page(0, 7)},
			"[{-9223372036854775808 [2]} {-4611686018427387904 [6]} {0 [7]} {9 [4]} {10 [3]} {4611686018427387904 [5]} {9223372036854775807 [1]}]"},
		{[]api.Page{page(1<<32, 1), page(0, 2)}, []api.Page{page(1<<32, 3)}, "[{0 [2]} {4294967296 [3]}]"},
	} {
		wantPages(t, fmt.Sprintf("Compose(%v, %v)", x.x, x.y), image.Compose(x.x, x.y), x.want)
	}
}

// P7.4: any pages, in the same way each time.
func TestP7_4Any(t *testing.T) {
	m := newMaker(3)
	met := map[string]int{}
	for range 5000 {
		x, y := m.pages(), m.pages()
		want := composeByRules(x, y)
		for range 2 {
			wantPages(t, fmt.Sprintf("Compose(%v, %v)", x, y), image.Compose(x, y), text(want))
		}
		for what, holds := range map[string]bool{
			"twice in x": len(composeByRules(x, nil)) < len(x),
			"twice in y": len(composeByRules(nil, y)) < len(y),
			"in both":    len(want) < len(composeByRules(x, nil))+len(composeByRules(nil, y)),
			"many":       len(want) > 5,
		} {
			if holds {
				met[what]++
			}
		}
	}
	wantMet(t, met, 500, "twice in x", "twice in y", "in both", "many")
}

// P7.4: all cells count, also those of pages that come twice or that no list has.
func TestP7_4Cost(t *testing.T) {
	for _, x := range []struct {
		l    []api.Page
		want int
	}{
		{nil, 0},
		{[]api.Page{}, 0},
		{[]api.Page{page(0)}, 0},
		{[]api.Page{page(5), page(6)}, 0},
		{[]api.Page{page(7, 9)}, 1},
		{[]api.Page{page(0, 0, 0, 0, 0)}, 4},
		{[]api.Page{page(0, row(4)...), page(1, row(4)...), page(2, row(3)...)}, 11},
		{[]api.Page{page(2, 1, 2), page(2, 1, 2), page(2, 1, 2)}, 6},
		{[]api.Page{page(-1, 1), page(least, 1, 2), page(greatest, row(9)...)}, 12},
		{roomy([]api.Page{page(1, 1), page(0, 1, 2)}), 3},
	} {
		if got := image.Cost(x.l); got != x.want {
			t.Errorf("Cost(%v) = %d, want %d", x.l, got, x.want)
		}
	}
	m := newMaker(4)
	for range 500 {
		l := m.pages()
		var all []int
		for _, p := range l {
			all = append(all, p.Cells...)
		}
		if got := image.Cost(l); got != len(all) {
			t.Errorf("Cost(%v) = %d, want %d", l, got, len(all))
		}
	}
}

// P7.5: the difference leads from one list to another one of the same length, and costs at most its cells.
func TestP7_5Diff(t *testing.T) {
	m := newMaker(5)
	for range 5000 {
		a := m.cells(m.Intn(30))
		b := m.changed(a)
		if m.Intn(3) == 0 {
			b = m.cells(len(a))
		}
		wantApply(t, a, image.Diff(a, b), b, api.OK)
		wantApply(t, b, image.Diff(b, a), a, api.OK)
		other := m.cells(m.Intn(30))
		for _, l := range [][]int{a, other} {
			if cost := image.Cost(image.Diff(l, b)); cost > len(b) {
				t.Errorf("Diff(%v, %v) costs %d", l, b, cost)
			}
		}
		if len(other) != len(b) && image.Cost(image.Diff(other, b)) != len(b) {
			t.Errorf("Diff(%v, %v) has not all cells", other, b)
		}
	}
}

// P7.5: what leads from a to b and then to c is composed to what leads from a to c.
func TestP7_5Compose(t *testing.T) {
	m := newMaker(6)
	met := map[string]int{}
	for range 5000 {
		a := m.cells(m.Intn(22))
		x, y := m.fitting(len(a)), m.fitting(len(a))
		b, e := image.Apply(a, x)
		c, wrong := image.Apply(b, y)
		if e != api.OK || wrong != api.OK {
			t.Fatalf("Apply(%v, %v) = %v, %d; %v: %d", a, x, b, e, y, wrong)
		}
		wantApply(t, a, image.Compose(x, y), c, api.OK)
		wantApply(t, a, image.Compose(image.Diff(a, b), image.Diff(b, c)), c, api.OK)
		if len(image.Compose(x, y)) < len(x)+len(y) {
			met["fewer"]++
		}
		if len(b) > 0 && !slices.Equal(b, c) && !slices.Equal(a, b) {
			met["changed"]++
		}
	}
	wantMet(t, met, 500, "fewer", "changed")
}

// R2: the arguments stay as they are, with what lies behind them; the results are memory of their own, each page too, and nothing is kept.
func TestP7_2Pure(t *testing.T) {
	m := newMaker(7)
	for range 1000 {
		a := roomyCells(m.cells(m.Intn(14)))
		b := roomyCells(m.changed(a))
		x, y := roomy(m.fitting(len(a))), roomy(m.pages())
		before := fmt.Sprint(a[:cap(a)], b[:cap(b)]) + whole(x) + whole(y)
		pages := map[string]func() []api.Page{
			"Diff":         func() []api.Page { return image.Diff(a, b) },
			"Diff of all":  func() []api.Page { return image.Diff(a[:len(a)/2], b) },
			"Compose":      func() []api.Page { return image.Compose(x, y) },
			"Compose of x": func() []api.Page { return image.Compose(x, x) },
			"Apply": func() []api.Page {
				c, e := image.Apply(a, x)
				return []api.Page{{Number: int(e), Cells: c}}
			},
			"Apply of nothing": func() []api.Page {
				c, e := image.Apply(a, nil)
				return []api.Page{{Number: int(e), Cells: c}}
			},
			"Count and Cost": func() []api.Page { return []api.Page{page(image.Count(a), image.Cost(y))} },
		}
		for name, call := range pages {
			first, second := call(), call()
			written := text(first)
			spoil(first)
			if third := call(); text(second) != written || text(third) != written {
				t.Errorf("%s shares memory: %s, %s, want %s", name, text(second), text(third), written)
			}
			if fmt.Sprint(a[:cap(a)], b[:cap(b)])+whole(x)+whole(y) != before {
				t.Fatalf("%s changes its arguments: %v %v %s %s, want %s", name, a[:cap(a)], b[:cap(b)], whole(x), whole(y), before)
			}
		}
	}
}

// R2: no page of a result reaches into another one, neither by its cells nor by what is appended to them.
func TestP7_4Apart(t *testing.T) {
	cells := row(4)
	shared := []api.Page{{Number: 0, Cells: cells}, {Number: 1, Cells: cells}, {Number: 2, Cells: cells[:2]}}
	for name, l := range map[string][]api.Page{
		"Diff":    image.Diff(nil, row(11)),
		"Compose": image.Compose(shared, shared[1:]),
	} {
		for i := range l {
			var others []string
			for j := range l {
				others = append(others, text(l[j].Cells))
			}
			spoilCells(append(l[i].Cells, 77))
			spoilCells(l[i].Cells)
			for j := range l {
				if j != i && text(l[j].Cells) != others[j] {
					t.Errorf("%s: the page %d became %v with the page %d", name, j, l[j].Cells, i)
				}
			}
		}
	}
}

// R10: long lists, in a time that grows with them.
func TestP7_5Long(t *testing.T) {
	const n = 1<<20 + 3
	a := row(n)
	b := slices.Clone(a)
	b[0], b[n/2], b[n-1] = -1, -2, -3
	l := image.Diff(a, b)
	last := image.Count(a) - 1
	if len(l) != 3 || l[1].Number != n/2/4 || l[2].Number != last || last != 1<<18 || text(l[2].Cells) != fmt.Sprint([]int{n - 2, n - 1, -3}) {
		t.Fatalf("%v, of %d pages", l, last+1)
	}
	if c, e := image.Apply(a, l); e != api.OK || !slices.Equal(c, b) {
		t.Errorf("Apply of three pages: %d", e)
	}
	all := image.Diff(nil, b)
	if len(all) != last+1 || image.Cost(all) != n {
		t.Errorf("%d pages with %d cells", len(all), image.Cost(all))
	}
	slices.Reverse(all)
	if c, e := image.Apply(a, all); e != api.OK || !slices.Equal(c, b) {
		t.Errorf("Apply of all pages: %d", e)
	}
	both := image.Compose(all, image.Diff(nil, a))
	if len(both) != last+1 || image.Cost(both) != n {
		t.Errorf("%d pages with %d cells are composed", len(both), image.Cost(both))
	}
	if c, e := image.Apply(b, both); e != api.OK || !slices.Equal(c, a) {
		t.Errorf("Apply of composed pages: %d", e)
	}
}
