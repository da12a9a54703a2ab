package eval_test

import (
	"slices"
	"strconv"

	"loupe/api"
	"loupe/num"
	"loupe/order"
	"loupe/path"
	"loupe/term"
	"loupe/val"
)

// worded is what the chapter's words say that a filter gives of a value, op by op, by rows and their parts.
func worded(f api.Filter, v api.Val) (api.Val, api.Errno) {
	of := term.Parts(f)
	switch t := f[0]; t.Op {
	case api.OId:
		return v, api.OK
	case api.OField:
		return wordedPath(api.Path{{Name: t.S}}, v)
	case api.OPart:
		return wordedPath(api.Path{{Part: true, N: t.N}}, v)
	case api.OPipe:
		x, err := worded(of[0], v)
		if err != api.OK {
			return nil, err
		}
		return worded(of[1], x)
	case api.OMap, api.OVals:
		return wordedMap(t.Op == api.OVals, of[0], v)
	case api.OWhere:
		switch is, err := wordedCond(of[0], v); {
		case err != api.OK:
			return nil, err
		case !is:
			return nil, api.ErrNone
		}
		return v, api.OK
	case api.OObj, api.OTup:
		return wordedMade(f, v)
	case api.OToE:
		return wordedEntries(v)
	case api.OFromE:
		return wordedFrom(v)
	case api.OGroup, api.OSort:
		p, _, _ := path.Read(t.S)
		return wordedKeys(t.Op == api.OGroup, p, v)
	case api.ODel:
		p, _, _ := path.Read(t.S)
		return wordedDel(p, v)
	}
	return wordedRow(f[0], v)
}

// wordedRow is OTail and ORev, of what stands in a row.
func wordedRow(t api.Term, v api.Val) (api.Val, api.Errno) {
	cut := func(long int) int { return min(t.N, long) }
	l, runes := val.Parts(v), []rune(v[0].S)
	switch {
	case v[0].Kind == api.Null && t.Op == api.OTail:
		return v, api.OK
	case v[0].Kind == api.Null:
		return val.List(nil), api.OK
	case v[0].Kind == api.Arr && t.Op == api.OTail:
		return val.List(l[cut(len(l)):]), api.OK
	case v[0].Kind == api.Arr:
		slices.Reverse(l)
		return val.List(l), api.OK
	case v[0].Kind == api.Str && t.Op == api.OTail:
		return api.Val{{Kind: api.Str, S: string(runes[cut(len(runes)):])}}, api.OK
	case v[0].Kind == api.Str:
		slices.Reverse(runes)
		return api.Val{{Kind: api.Str, S: string(runes)}}, api.OK
	}
	return nil, api.ErrType
}

func wordedPath(p api.Path, v api.Val) (api.Val, api.Errno) {
	for _, step := range p {
		is, there := v[0].Kind == api.Obj && !step.Part || v[0].Kind == api.Arr && step.Part, false
		if !is && v[0].Kind != api.Null {
			return nil, api.ErrType
		}
		if l := val.Parts(v); step.Part && step.N < len(l) {
			v, there = l[step.N], true
		} else if at := slices.Index(val.Names(v), step.Name); !step.Part && at >= 0 {
			v, there = l[at], true
		}
		if !there {
			v = api.Val{{}}
		}
	}
	return v, api.OK
}

func wordedMap(keeps bool, f api.Filter, v api.Val) (api.Val, api.Errno) {
	var l []api.Val
	var names []string
	if v[0].Kind != api.Arr && v[0].Kind != api.Obj {
		return nil, api.ErrType
	}
	for i, part := range val.Parts(v) {
		x, err := worded(f, part)
		if err == api.ErrType {
			return nil, err
		}
		if err == api.OK {
			l = append(l, x)
		}
		if err == api.OK && v[0].Kind == api.Obj {
			names = append(names, val.Names(v)[i])
		}
	}
	if keeps && v[0].Kind == api.Obj {
		return val.Object(names, l)
	}
	return val.List(l), api.OK
}

func wordedMade(f api.Filter, v api.Val) (api.Val, api.Errno) {
	var l []api.Val
	var names []string
	at := 1
	for _, part := range term.Parts(f) {
		x, err := worded(part, v)
		if err == api.ErrType || err == api.ErrNone && f[0].Op == api.OObj {
			return nil, err
		}
		if err == api.OK {
			l, names = append(l, x), append(names, f[at].Name)
		}
		at += len(part)
	}
	if f[0].Op == api.OObj {
		return val.Object(names, l)
	}
	return val.List(l), api.OK
}

func wordedEntries(v api.Val) (api.Val, api.Errno) {
	var l []api.Val
	if v[0].Kind != api.Arr && v[0].Kind != api.Obj {
		return nil, api.ErrType
	}
	for i, part := range val.Parts(v) {
		key, _, _ := num.Read(strconv.Itoa(i))
		if v[0].Kind == api.Obj {
			key = api.Node{Kind: api.Str, S: val.Names(v)[i]}
		}
		entry, _ := val.Object([]string{"value", "key"}, []api.Val{part, {key}})
		l = append(l, entry)
	}
	return val.List(l), api.OK
}

func wordedFrom(v api.Val) (api.Val, api.Errno) {
	if v[0].Kind != api.Arr {
		return nil, api.ErrType
	}
	o, _ := val.Object(nil, nil)
	for _, part := range val.Parts(v) {
		key, _ := val.Field(part, "key")
		if len(key) == 0 || key[0].Kind != api.Str {
			return nil, api.ErrType
		}
		x, is := val.Field(part, "value")
		if !is {
			x = api.Val{{}}
		}
		o = val.With(o, key[0].S, x)
	}
	return o, api.OK
}

func wordedKeys(groups bool, p api.Path, v api.Val) (api.Val, api.Errno) {
	if v[0].Kind != api.Arr {
		return nil, api.ErrType
	}
	var keys, l []api.Val
	parts := val.Parts(v)
	for _, part := range parts {
		key, err := wordedPath(p, part)
		if err != api.OK {
			return nil, err
		}
		keys = append(keys, key)
	}
	for _, places := range order.Groups(keys) {
		var group []api.Val
		for _, at := range places {
			group = append(group, parts[at])
		}
		if groups {
			group = []api.Val{val.List(group)}
		}
		l = append(l, group...)
	}
	return val.List(l), api.OK
}

// wordedDel takes away what stands there by what holds it, if that is there.
func wordedDel(p api.Path, v api.Val) (api.Val, api.Errno) {
	if len(p) == 0 {
		return api.Val{{}}, api.OK
	}
	last := len(p) - 1
	if _, err := wordedPath(p, v); err != api.OK {
		return nil, err
	}
	if _, err := path.Get(p, v); err != api.OK {
		return v, api.OK
	}
	holder, _ := path.Get(p[:last], v)
	if !p[last].Part {
		return path.Set(p[:last], v, val.Without(holder, p[last].Name))
	}
	return path.Set(p[:last], v, val.List(slices.Delete(val.Parts(holder), p[last].N, p[last].N+1)))
}

func wordedCond(p api.Filter, v api.Val) (bool, api.Errno) {
	of := term.Parts(p)
	if t := p[0]; t.Op == api.PCmp {
		steps, _, _ := path.Read(t.S)
		x, err := wordedPath(steps, v)
		if err != api.OK {
			return false, err
		}
		c := order.Cmp(x, api.Val{t.C})
		return []bool{c == 0, c != 0, c < 0, c <= 0, c > 0, c >= 0}[t.N], api.OK
	}
	is, err := wordedCond(of[0], v)
	switch {
	case err != api.OK:
		return false, err
	case p[0].Op == api.PNot:
		return !is, api.OK
	case p[0].Op == api.PAnd && !is, p[0].Op == api.POr && is:
		return is, api.OK
	}
	return wordedCond(of[1], v)
}
