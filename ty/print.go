package ty

import (
	"strings"

	"loupe/api"
	"loupe/path"
	"loupe/text"
)

// signs are how it is compared, as that is written, by how it is told.
var signs = [...]string{api.Eq: "==", api.Ne: "!=", api.Lt: "<", api.Le: "<=", api.Gt: ">", api.Ge: ">="}

// kinds are the kinds that a mask may let in, as they are written, from its least bit on.
var kinds = [...]string{api.Null: "null", api.False: "false", api.True: "true", api.Num: "num", api.Str: "str"}

// between stands between each two parts of any type.
const between = ", "

// printer keeps what is printed so far.
type printer struct{ strings.Builder }

// print prints the type that a row begins with, and tells the row behind it. Each Ty is gone by once, so it takes as long as the row is, however deep that is.
func (p *printer) print(row api.Type) api.Type {
	if len(row) == 0 {
		return nil
	}
	x, rest := row[0], row[1:]
	ahead, behind := marks(x)
	p.WriteString(ahead)
	// A row that is no type may have fewer parts than it says.
	for i := 0; i < x.Many && len(rest) > 0; i++ {
		if i > 0 {
			p.WriteString(between)
		}
		if x.Kind == api.YObj {
			p.WriteString(nameText(rest[0].Name) + ": ")
		}
		rest = p.print(rest)
	}
	p.WriteString(behind)
	return rest
}

// marks are what is written of a type ahead of its parts, and behind them; of one that has none all of it is in both together.
func marks(x api.Ty) (ahead, behind string) {
	switch x.Kind {
	case api.YAny:
		return "any", ""
	case api.YScal:
		return scalMarks(x)
	case api.YObj:
		return objMarks(x)
	case api.YDict:
		return "{?: ", "}"
	case api.YTup:
		return "tup(", ")"
	case api.YArr:
		return "[", "]"
	case api.YEnts:
		return "entries(", ")"
	case api.YSort:
		return "sorted(" + x.S + between, ")"
	case api.YGroup:
		return "grouped(" + x.S + between, ")"
	case api.YAtom:
		return sign(x.N) + " " + text.Compact(api.Val{x.C}), ""
	}
	return "", ""
}

func scalMarks(x api.Ty) (ahead, behind string) {
	if x.Many == 0 {
		return maskText(x.N), ""
	}
	return maskText(x.N) + "(", ")"
}

func objMarks(x api.Ty) (ahead, behind string) {
	switch {
	case x.N == 0:
		return "{", "}"
	case x.Many == 0:
		return "{", "?}"
	}
	return "{", between + "?}"
}

// maskText is the kinds that a mask lets in, rising.
func maskText(mask int) string {
	var l []string
	for kind, name := range kinds {
		if mask>>kind&1 == 1 {
			l = append(l, name)
		}
	}
	return strings.Join(l, "|")
}

// sign is how it is compared, as it is written; nothing, if that is no way to compare.
func sign(n int) string {
	if n < 0 || n >= len(signs) {
		return ""
	}
	return signs[n]
}

// nameText is a name as it stands in an object: written as in the path of that field, but for the dot.
func nameText(name string) string { return path.Text(api.Path{{Name: name}})[len("."):] }
