package term

import (
	"strconv"
	"strings"

	"loupe/api"
	"loupe/path"
	"loupe/text"
)

// signs are how it is compared, as that is written, by how it is told.
var signs = [...]string{api.Eq: "==", api.Ne: "!=", api.Lt: "<", api.Le: "<=", api.Gt: ">", api.Ge: ">="}

// printer keeps what is printed so far.
type printer struct{ strings.Builder }

// filter prints the filter, or the condition, that a row begins with, and tells the row behind it. Each term is gone by once, so it takes as long as the row is, however deep that is.
func (p *printer) filter(row api.Filter) api.Filter {
	if len(row) == 0 {
		return nil
	}
	t, rest := row[0], row[1:]
	ahead, between, behind := marks(t)
	p.WriteString(ahead)
	// A row that is no filter may have fewer parts than it says.
	for i := 0; i < t.Many && len(rest) > 0; i++ {
		if i > 0 {
			p.WriteString(between)
		}
		if t.Op == api.OObj {
			p.WriteString(nameText(rest[0].Name) + ": ")
		}
		rest = p.part(t.Op, rest)
	}
	p.WriteString(behind)
	return rest
}

// part prints the part that a row begins with, of a term that does this, in brackets, if it needs them there.
func (p *printer) part(of int, row api.Filter) api.Filter {
	if !needsBrackets(of, row[0].Op) {
		return p.filter(row)
	}
	p.WriteByte('(')
	rest := p.filter(row)
	p.WriteByte(')')
	return rest
}

func needsBrackets(of, op int) bool {
	switch of {
	case api.OObj, api.OTup:
		return op == api.OPipe
	case api.PAnd, api.POr:
		return op == api.PAnd || op == api.POr
	}
	return false
}

// marks are what is written of a term ahead of its parts, between each two, and behind them; of one that has no parts all of it is ahead.
func marks(t api.Term) (ahead, between, behind string) {
	switch t.Op {
	case api.OId:
		return ".", "", ""
	case api.OField:
		return fieldText(t.S), "", ""
	case api.OPart:
		return ".[" + strconv.Itoa(t.N) + "]", "", ""
	case api.OTail:
		return ".[" + strconv.Itoa(t.N) + ":]", "", ""
	case api.OPipe:
		return "", " | ", ""
	case api.OMap:
		return "map(", "", ")"
	case api.OVals:
		return "map_values(", "", ")"
	case api.OWhere:
		return "select(", "", ")"
	case api.OObj:
		return "{", ", ", "}"
	case api.OTup:
		return "[", ", ", "]"
	case api.OToE:
		return "to_entries", "", ""
	case api.OFromE:
		return "from_entries", "", ""
	case api.OGroup:
		return "group_by(" + t.S + ")", "", ""
	case api.OSort:
		return "sort_by(" + t.S + ")", "", ""
	case api.ORev:
		return "reverse", "", ""
	case api.ODel:
		return "del(" + t.S + ")", "", ""
	case api.PCmp:
		return t.S + " " + sign(t.N) + " " + text.Compact(api.Val{t.C}), "", ""
	case api.PAnd:
		return "", " and ", ""
	case api.POr:
		return "", " or ", ""
	case api.PNot:
		return "(", "", " | not)"
	}
	return "", "", ""
}

// sign is how it is compared, as it is written; nothing, if that is no way to compare.
func sign(n int) string {
	if n < 0 || n >= len(signs) {
		return ""
	}
	return signs[n]
}

func fieldText(name string) string { return path.Text(api.Path{{Name: name}}) }

// nameText is a name as it stands in an object: written as in the path of that field, but for the dot.
func nameText(name string) string { return fieldText(name)[len("."):] }
