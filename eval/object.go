package eval

import "loupe/api"

// key and value are the names of an entry's fields.
const (
	key   = "key"
	value = "value"
)

// fields gives an object; of the first filter that gives none, or is an error, that.
func fields(filters []named) filter {
	return func(v *tree) (*tree, api.Errno) {
		var parts []*tree
		for _, f := range filters {
			x, err := f.give(v)
			if err != api.OK {
				return nil, err
			}
			parts = append(parts, x.named(f.name))
		}
		return object(parts), api.OK
	}
}

func toEntries(v *tree) (*tree, api.Errno) {
	if !v.holdsParts() {
		return nil, api.ErrType
	}
	var entries []*tree
	for i, part := range v.parts {
		k := number(i)
		if v.is(api.Obj) {
			k = str(part.node.Name)
		}
		entries = append(entries, object([]*tree{k.named(key), part.named(value)}))
	}
	return list(entries), api.OK
}

func fromEntries(v *tree) (*tree, api.Errno) {
	if !v.is(api.Arr) {
		return nil, api.ErrType
	}
	parts, err := each(v.parts, fromEntry)
	if err != api.OK {
		return nil, err
	}
	return object(parts), api.OK
}

// fromEntry is what stands in an entry, by the name that stands there.
func fromEntry(entry *tree) (*tree, api.Errno) {
	k, err := entry.step(api.Step{Name: key})
	if err != api.OK || !k.is(api.Str) {
		return nil, api.ErrType
	}
	// What has a string there is an object, of which each field may be asked.
	x, _ := entry.step(api.Step{Name: value})
	return x.named(k.node.S), api.OK
}
