package eval

import (
	"cmp"
	"slices"

	"loupe/api"
)

// along gives what a path does.
func along(p api.Path) filter {
	return func(v *tree) (*tree, api.Errno) {
		for _, step := range p {
			next, err := v.step(step)
			if err != api.OK {
				return nil, err
			}
			v = next
		}
		return v, api.OK
	}
}

// step is what a value has behind a step.
func (t *tree) step(step api.Step) (*tree, api.Errno) {
	at, err := t.place(step)
	if err != api.OK {
		return nil, err
	}
	if at < 0 {
		return null(), api.OK
	}
	return t.parts[at].named(""), api.OK
}

// without gives a value without what stands at a path.
func without(p api.Path) filter {
	return func(v *tree) (*tree, api.Errno) {
		if len(p) == 0 {
			return null(), api.OK
		}
		return v.cut(p)
	}
}

// cut is a value without what stands at a path that has steps.
func (t *tree) cut(p api.Path) (*tree, api.Errno) {
	at, err := t.place(p[0])
	if err != api.OK {
		return nil, err
	}
	// What is not there is null, of which each step may be asked: nothing stands at any.
	if at < 0 {
		return t, api.OK
	}
	ahead, behind := t.parts[:at], t.parts[at+1:]
	if len(p) == 1 {
		return t.with(slices.Concat(ahead, behind)), api.OK
	}
	part, err := t.parts[at].cut(p[1:])
	if err != api.OK {
		return nil, err
	}
	return t.with(slices.Concat(ahead, []*tree{part}, behind)), api.OK
}

// place is which part of a value a step is to: -1, if there is none.
func (t *tree) place(step api.Step) (int, api.Errno) {
	if !t.is(api.Null) && !t.is(holder(step)) {
		return -1, api.ErrType
	}
	at, is := step.N, 0 <= step.N && step.N < len(t.parts)
	if !step.Part {
		at, is = slices.BinarySearchFunc(t.parts, step.Name, holdName)
	}
	if !is {
		return -1, api.OK
	}
	return at, api.OK
}

// holdName holds a part's name against another one.
func holdName(part *tree, name string) int { return cmp.Compare(part.node.Name, name) }

// holder is the kind of the values in which there may be such a step.
func holder(step api.Step) int {
	if step.Part {
		return api.Arr
	}
	return api.Obj
}
