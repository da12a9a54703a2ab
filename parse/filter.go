package parse

import "loupe/api"

func (r *reader) filter() api.Filter {
	l := []api.Filter{r.post()}
	for r.takes(api.TMark, "|") {
		l = append(l, r.post())
	}
	return piped(l)
}

func (r *reader) post() api.Filter {
	dot := r.stands(api.TMark, ".")
	l := []api.Filter{r.prim()}
	if dot && r.stands(api.TMark, "[") {
		// That dot only stands ahead of the brackets, and is no filter of its own.
		l = nil
	}
	for r.steps() {
		l = append(l, of(r.suffix()))
	}
	return piped(l)
}

func (r *reader) prim() api.Filter {
	switch r.left[0].Kind {
	case api.TField:
		return of(r.suffix())
	case api.TWord:
		return r.word()
	case api.TMark:
		return r.mark()
	}
	panic(r.stuck())
}

// mark reads a prim that a mark begins.
func (r *reader) mark() api.Filter {
	switch r.left[0].S {
	case ".":
		r.take()
		return of(api.Term{Op: api.OId})
	case "(":
		return r.within(r.filter)
	case "{":
		return r.object()
	case "[":
		return of(api.Term{Op: api.OTup}, r.each("[", "]", r.post)...)
	}
	panic(r.stuck())
}

// word reads a prim that a word begins.
func (r *reader) word() api.Filter {
	switch t := r.take(); t.S {
	case "map":
		return of(api.Term{Op: api.OMap}, r.within(r.filter))
	case "map_values":
		return of(api.Term{Op: api.OVals}, r.within(r.filter))
	case "with_entries":
		inner := of(api.Term{Op: api.OMap}, r.within(r.filter))
		return piped([]api.Filter{of(api.Term{Op: api.OToE}), inner, of(api.Term{Op: api.OFromE})})
	case "select":
		return of(api.Term{Op: api.OWhere}, r.within(r.cond))
	case "group_by":
		return r.byPath(api.OGroup)
	case "sort_by":
		return r.byPath(api.OSort)
	case "del":
		return r.byPath(api.ODel)
	case "to_entries":
		return of(api.Term{Op: api.OToE})
	case "from_entries":
		return of(api.Term{Op: api.OFromE})
	case "reverse":
		return of(api.Term{Op: api.ORev})
	default:
		panic(fault{api.ErrForm, t.At})
	}
}

// byPath reads what stands behind the word of a term that has a path.
func (r *reader) byPath(op int) api.Filter {
	return r.within(func() api.Filter { return of(api.Term{Op: op, S: r.path()}) })
}

func (r *reader) object() api.Filter {
	ahead := map[string]int{}
	return of(api.Term{Op: api.OObj}, r.each("{", "}", func() api.Filter {
		name := r.name(ahead)
		r.needs(api.TMark, ":")
		part := r.post()
		part[0].Name = name
		return part
	})...)
}

// name reads that of an entry, which none of those ahead may have, and counts it among these.
func (r *reader) name(ahead map[string]int) string {
	t := r.left[0]
	if ahead[t.S] > 0 || t.Kind != api.TWord && t.Kind != api.TText {
		panic(r.stuck())
	}
	r.take()
	ahead[t.S]++
	return t.S
}
