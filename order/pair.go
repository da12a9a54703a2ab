package order

import (
	"cmp"

	"loupe/api"
	"loupe/num"
)

// pair is what is left of two rows that are gone along side by side, and in how many objects that stands. Each node is gone by once, so that the walk is as long as the rows, however deep they are.
type pair struct {
	a, b api.Val
	in   int
}

// value compares the values with which both rows go on, and goes past them; where they are not the same, only as leave does.
func (p *pair) value() int {
	x, y := p.node()
	// A row that is no value may have fewer parts than it says.
	m, n := min(x.Many, len(p.a)), min(y.Many, len(p.b))
	if c := cmp.Compare(x.Kind, y.Kind); c != 0 {
		p.leave(m, n)
		return c
	}
	switch x.Kind {
	case api.Num:
		// A number has no name; what has one is a field.
		x.Name, y.Name = "", ""
		return num.Cmp(x, y)
	case api.Str:
		return cmp.Compare(x.S, y.S)
	case api.Arr:
		return p.lists(m, n)
	case api.Obj:
		return p.objects(m, n)
	}
	return 0
}

// lists compares lists, of which as many parts come next in each row.
func (p *pair) lists(m, n int) int {
	parts := 0
	for parts == 0 && m > 0 && n > 0 {
		parts = p.value()
		m, n = m-1, n-1
	}
	p.leave(m, n)
	return cmp.Or(parts, cmp.Compare(m, n))
}

// objects compares objects, of which as many parts come next in each row. As names tell ahead of all parts, it goes on to them even where parts are no more the same.
func (p *pair) objects(m, n int) int {
	names, parts := 0, 0
	p.in++
	for names == 0 && m > 0 && n > 0 {
		names = cmp.Compare(name(p.a), name(p.b))
		if names == 0 && parts == 0 {
			parts = p.value()
		} else {
			p.leave(1, 1)
		}
		m, n = m-1, n-1
	}
	p.in--
	p.leave(m, n)
	return cmp.Or(names, cmp.Compare(m, n), parts)
}

// leave goes past as many values of each row. In no object nobody asks any more for what stands behind a difference.
func (p *pair) leave(m, n int) {
	if p.in > 0 {
		p.a, p.b = past(p.a, m), past(p.b, n)
	}
}

// node takes the next node off each row.
func (p *pair) node() (x, y api.Node) {
	x, p.a = next(p.a)
	y, p.b = next(p.b)
	return x, y
}

// next is a row's first node, and the row behind it; of a row that ends too soon an empty one.
func next(row api.Val) (api.Node, api.Val) {
	if len(row) == 0 {
		return api.Node{}, nil
	}
	return row[0], row[1:]
}

// name is that of the value with which a row goes on.
func name(row api.Val) string {
	n, _ := next(row)
	return n.Name
}

// past is a row behind as many values.
func past(row api.Val, many int) api.Val {
	at := 0
	for ; many > 0 && at < len(row); at++ {
		many += row[at].Many - 1
	}
	return row[at:]
}
