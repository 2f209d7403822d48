package image_test

import (
	"fmt"
	"math"
	"math/rand"
	"slices"
	"sort"
	"strconv"

	"rollbacknet/api"
)

const (
	least    = math.MinInt64
	greatest = math.MaxInt64
)

// odd are numbers with which a function can go wrong. Those from 1 << 61 on, and their opposites, have no multiple by the size of a page.
var odd = []int{least, least + 1, -1 << 62, -1<<62 + 1, -1 << 61, -1 << 32, -4, -2, -1, 1 << 32, 1 << 61, 1<<61 + 1, 1 << 62, 1<<62 + 1, greatest - 1, greatest}

// row returns the cells 1, 2, .. n.
func row(n int) []int {
	l := make([]int, n)
	for i := range l {
		l[i] = i + 1
	}
	return l
}

func page(n int, cells ...int) api.Page { return api.Page{Number: n, Cells: cells} }

// pagesByRules is P7.1: each cell goes to the page with the number of its place divided by the size.
func pagesByRules(cells []int) [][]int {
	var l [][]int
	for i, v := range cells {
		if i/api.PageSize == len(l) {
			l = append(l, nil)
		}
		l[i/api.PageSize] = append(l[i/api.PageSize], v)
	}
	return l
}

// diffByRules is P7.2: it takes away, from all pages of b, those that a has, in a list of the same length.
func diffByRules(a, b []int) []api.Page {
	has := map[string]bool{}
	if len(a) == len(b) {
		for n, cells := range pagesByRules(a) {
			has[fmt.Sprint(n, cells)] = true
		}
	}
	var l []api.Page
	for n, cells := range pagesByRules(b) {
		if !has[fmt.Sprint(n, cells)] {
			l = append(l, page(n, cells...))
		}
	}
	return l
}

// applyByRules is P7.3: the pages are kept by the text of their number, which none but an existing page has.
func applyByRules(a []int, l []api.Page) ([]int, api.Errno) {
	pages := map[string][]int{}
	for n, cells := range pagesByRules(a) {
		pages[strconv.Itoa(n)] = cells
	}
	for _, p := range l {
		old, ok := pages[strconv.Itoa(p.Number)]
		switch {
		case !ok:
			return nil, api.ErrRange
		case len(old) != len(p.Cells):
			return nil, api.ErrShape
		}
		pages[strconv.Itoa(p.Number)] = p.Cells
	}
	var b []int
	for n := range len(pages) {
		b = append(b, pages[strconv.Itoa(n)]...)
	}
	return b, api.OK
}

// composeByRules is P7.4: all pages are sorted by their numbers, and by their places; of each number the last one stays.
func composeByRules(x, y []api.Page) []api.Page {
	all := append(append([]api.Page{}, x...), y...)
	sort.SliceStable(all, func(i, j int) bool { return all[i].Number < all[j].Number })
	var l []api.Page
	for i, p := range all {
		if i+1 == len(all) || all[i+1].Number != p.Number {
			l = append(l, p)
		}
	}
	return l
}

// text writes cells or pages; nil and empty lists are the same.
func text[T int | api.Page](l []T) string { return fmt.Sprint(l) }

// whole writes pages with what lies behind them and behind their cells.
func whole(l []api.Page) string {
	s := text(l)
	for _, p := range l[:cap(l)] {
		s += fmt.Sprint(" ", p.Number, len(p.Cells), p.Cells[:cap(p.Cells)])
	}
	return s
}

// roomyCells copies cells, with spare elements behind them.
func roomyCells(l []int) []int {
	return append(append(make([]int, 0, len(l)+9), l...), 88, 87, 86, 85, 84)[:len(l)]
}

// roomy copies pages, with spare elements behind each list.
func roomy(l []api.Page) []api.Page {
	r := append(append(make([]api.Page, 0, len(l)+9), l...), page(88, 88))[:len(l)]
	for i, p := range r {
		r[i].Cells = roomyCells(p.Cells)
	}
	return r
}

// spoilCells changes all cells, and what lies behind them.
func spoilCells(l []int) {
	for i := range l[:cap(l)] {
		l[:cap(l)][i] = -1000
	}
}

// spoil changes all pages, and all their cells.
func spoil(l []api.Page) {
	for i := range l {
		spoilCells(l[i].Cells)
		l[i] = page(-1000)
	}
}

// maker makes cells and pages at random.
type maker struct{ *rand.Rand }

func newMaker(seed int64) maker { return maker{rand.New(rand.NewSource(seed))} }

func (m maker) value() int {
	if m.Intn(8) == 0 {
		return odd[m.Intn(len(odd))]
	}
	return m.Intn(3)
}

func (m maker) cells(n int) []int {
	l := make([]int, n)
	for i := range l {
		l[i] = m.value()
	}
	return l
}

// changed returns a list of the same length, most of whose pages are those of a.
func (m maker) changed(a []int) []int {
	b := slices.Clone(a)
	for range m.Intn(4) {
		if len(b) > 0 {
			b[m.Intn(len(b))] = m.value()
		}
	}
	return b
}

// fitting returns pages that lists of n cells have, in any order, some of them more than once.
func (m maker) fitting(n int) []api.Page {
	var l []api.Page
	count := len(pagesByRules(make([]int, n)))
	for range m.Intn(7) {
		if count > 0 {
			number := m.Intn(count)
			l = append(l, page(number, m.cells(min(api.PageSize, n-number*api.PageSize))...))
		}
	}
	return l
}

// pages returns pages with any numbers and lengths.
func (m maker) pages() []api.Page {
	var l []api.Page
	for range m.Intn(9) {
		number := m.Intn(6) - 1
		if m.Intn(4) == 0 {
			number = odd[m.Intn(len(odd))]
		}
		l = append(l, page(number, m.cells(m.Intn(6))...))
	}
	return l
}
