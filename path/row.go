package path

import "loupe/api"

// place is where in a row what stands at a path begins. Along the row each node is gone by once at most, however many steps there are.
func place(p api.Path, v api.Val) (int, api.Errno) {
	at := 0
steps:
	for _, step := range p {
		if at == len(v) || v[at].Kind != holder(step) {
			return 0, api.ErrType
		}
		many := v[at].Many
		at++
		// A row that is no value may have fewer parts than it says.
		for nth := 0; nth < many && at < len(v); nth++ {
			if leads(step, nth, v[at].Name) {
				continue steps
			}
			at = past(v, at)
		}
		return 0, api.ErrNone
	}
	return at, api.OK
}

// holder is the kind of the values in which there may be such a step.
func holder(step api.Step) int {
	if step.Part {
		return api.Arr
	}
	return api.Obj
}

// leads tells whether a step is to the part that is the nth one, from 0, and has that name.
func leads(step api.Step, nth int, name string) bool {
	if step.Part {
		return nth == step.N
	}
	return name == step.Name
}

// past is the place behind the value that begins at a place of a row.
func past(v api.Val, at int) int {
	for lack := 1; lack > 0 && at < len(v); at++ {
		lack += v[at].Many - 1
	}
	return at
}
