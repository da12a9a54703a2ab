package path

import (
	"strconv"
	"strings"

	"loupe/api"
	"loupe/quote"
)

// written is a step's text, without what stands ahead of it, if it is the first one.
func written(step api.Step) string {
	switch {
	case step.Part:
		return "[" + strconv.Itoa(step.N) + "]"
	case step.Name != "" && word(step.Name) == step.Name:
		return "." + step.Name
	}
	return "." + quote.Quote(step.Name)
}

// begun is the step that a text begins with, and how many bytes that has: 0, if there is none.
func begun(s string, first bool) (api.Step, int) {
	ahead := 0
	if first && strings.HasPrefix(s, ".[") {
		ahead = 1
	} else if first && !strings.HasPrefix(s, ".") {
		return api.Step{}, 0
	}
	step := guess(s[ahead:])
	text := written(step)
	if !rightStep(step) || !strings.HasPrefix(s[ahead:], text) {
		return api.Step{}, 0
	}
	return step, ahead + len(text)
}

// guess is the step that a text begins with, if it begins with one. Whether it does is not asked here: a step has one text only, so where none stands no guess is written as what does.
func guess(s string) api.Step {
	if inside, is := strings.CutPrefix(s, "["); is {
		figures, _, _ := strings.Cut(inside, "]")
		n, _ := strconv.Atoi(figures)
		return api.Step{Part: true, N: n}
	}
	s = strings.TrimPrefix(s, ".")
	if name, _, err := quote.Unquote(s); err == api.OK {
		return api.Step{Name: name}
	}
	return api.Step{Name: word(s)}
}

// word is the word that a text begins with; nothing, if it begins with none.
func word(s string) string {
	at := 0
	for at < len(s) && (isLetter(s[at]) || at > 0 && isFigure(s[at])) {
		at++
	}
	return s[:at]
}

func isLetter(c byte) bool {
	return 'a' <= c && c <= 'z' || 'A' <= c && c <= 'Z' || c == '_'
}

func isFigure(c byte) bool { return '0' <= c && c <= '9' }
