package ty

import (
	"math"

	"loupe/api"
	"loupe/atom"
	"loupe/path"
)

// allKinds is the mask that lets all kinds in; a greater number is no mask.
const allKinds = 31

// rightTy tells whether a Ty is one of the chapter's table, but for what hangs on the types that it is in, or that are in it.
func rightTy(x api.Ty) bool {
	least, most := partsOf(x.Kind)
	if x.Many < least || x.Many > most {
		return false
	}
	only := api.Ty{Kind: x.Kind, Many: x.Many, Name: x.Name}
	right := true
	switch x.Kind {
	case api.YScal:
		only.N = x.N
		right = 0 < x.N && x.N <= allKinds
	case api.YObj:
		only.N = x.N
		right = x.N == 0 || x.N == 1
	case api.YSort, api.YGroup:
		only.S = x.S
		_, right = fields(x.S)
	case api.YAtom:
		only.N, only.C = x.N, x.C
		right = atom.Right(atomOf(x))
	}
	return right && x == only
}

// partsOf is how many parts a type of a kind has, from least to most; of what is no kind there is none.
func partsOf(kind int) (least, most int) {
	switch kind {
	case api.YAny, api.YAtom:
		return 0, 0
	case api.YScal, api.YObj, api.YTup:
		return 0, math.MaxInt
	case api.YDict, api.YArr, api.YEnts, api.YSort, api.YGroup:
		return 1, 1
	}
	return 1, 0
}

// fields is the path of which a text is, and yes, if all its steps are to fields.
func fields(s string) (api.Path, bool) {
	p, _, err := path.Read(s)
	if err != api.OK {
		return nil, false
	}
	for _, step := range p {
		if step.Part {
			return nil, false
		}
	}
	return p, true
}
