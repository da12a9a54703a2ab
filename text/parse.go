package text

import (
	"strings"

	"loupe/api"
	"loupe/num"
	"loupe/quote"
	"loupe/val"
)

// numeral is what a number's bytes are, in whatever order.
const numeral = "0123456789+-.eE"

// reader is a text, how far it is read, and in how many lists and objects that is.
type reader struct {
	s      string
	at, in int
}

// fault is why a text can't go on, and where: what a reader panics with.
type fault struct {
	err api.Errno
	at  int
}

// Parse: a text's value.
func Parse(s string) (v api.Val, at int, err api.Errno) {
	defer func() {
		if told := recover(); told != nil {
			// Anything else is no fault of the text's, so it is not held back.
			f := told.(fault)
			v, at, err = nil, f.at, f.err
		}
	}()
	r := reader{s: s}
	v = r.value()
	if r.next(); r.at < len(s) {
		panic(fault{api.ErrForm, r.at})
	}
	return v, 0, api.OK
}

// next goes past blanks, and tells the byte that stands behind them; at the end 0, which a text of JSON has nowhere.
func (r *reader) next() byte {
	for ; r.at < len(r.s); r.at++ {
		switch c := r.s[r.at]; c {
		case ' ', '\t', '\n', '\r':
		default:
			return c
		}
	}
	return 0
}

// takes goes past a mark, if it is what stands next.
func (r *reader) takes(mark byte) bool {
	is := r.next() == mark
	if is {
		r.at++
	}
	return is
}

func (r *reader) needs(mark byte) {
	if !r.takes(mark) {
		panic(fault{api.ErrForm, r.at})
	}
}

func (r *reader) value() api.Val {
	switch c := r.next(); {
	case c == '[':
		return r.list()
	case c == '{':
		return r.object()
	case c == '"':
		return api.Val{{Kind: api.Str, S: r.str()}}
	case c == '-' || '0' <= c && c <= '9':
		return api.Val{r.number()}
	}
	return api.Val{r.word()}
}

func (r *reader) list() api.Val {
	var l []api.Val
	r.parts(']', func() { l = append(l, r.value()) })
	return val.List(l)
}

func (r *reader) object() api.Val {
	var names []string
	var l []api.Val
	places := map[string]int{}
	r.parts('}', func() {
		name := r.str()
		r.needs(':')
		part := r.value()
		if i, twice := places[name]; twice {
			l[i] = part
			return
		}
		places[name] = len(l)
		names, l = append(names, name), append(l, part)
	})
	// No name comes twice, and what is unquoted is UTF-8, so there is no error.
	v, _ := val.Object(names, l)
	return v
}

// parts goes from the first mark of a list or an object, which stands next, past its last one; read reads each part.
func (r *reader) parts(last byte, read func()) {
	if r.in == api.MaxDepth {
		panic(fault{api.ErrDepth, r.at})
	}
	r.in++
	r.at++
	if !r.takes(last) {
		read()
		for !r.takes(last) {
			r.needs(',')
			read()
		}
	}
	r.in--
}

func (r *reader) str() string {
	// A name may have blanks ahead.
	r.next()
	s, many, err := quote.Unquote(r.s[r.at:])
	if err != api.OK {
		panic(fault{err, r.at + many})
	}
	r.at += many
	return s
}

func (r *reader) number() api.Node {
	to := len(r.s) - len(strings.TrimLeft(r.s[r.at:], numeral))
	n, at, err := num.Read(r.s[r.at:to])
	if err != api.OK {
		panic(fault{err, r.at + at})
	}
	r.at = to
	return n
}

func (r *reader) word() api.Node {
	for kind, word := range words {
		if strings.HasPrefix(r.s[r.at:], word) {
			r.at += len(word)
			return api.Node{Kind: kind}
		}
	}
	panic(fault{api.ErrForm, r.at})
}
