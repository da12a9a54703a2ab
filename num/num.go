// Package num is layer 1, exact decimal numbers: see shared/doc/01-num.md.
package num

import (
	"cmp"
	"strconv"
	"strings"

	"loupe/api"
)

// widest is up to how many figures a whole number is written out, and up to how many behind its point another one; beyond that its power is told.
const widest = 20

// Right: is it right?
func Right(n api.Node) bool {
	if n.Kind != api.Num || n.Many != 0 || n.Name != "" {
		return false
	}
	if n.S == "" {
		return !n.Neg && n.E == 0
	}
	return rightFigures(n.S) && rightPower(len(n.S), n.E)
}

func rightFigures(s string) bool {
	return len(s) <= api.MaxDigits && onlyFigures(s) && s[0] != '0' && s[len(s)-1] != '0'
}

// rightPower takes the figures off the limit, since a sum with e could go round.
func rightPower(figures, e int) bool {
	return e >= -api.MaxE && e <= api.MaxE-figures
}

// Make: a number of figures and a power.
func Make(neg bool, figures string, e int) (api.Node, api.Errno) {
	if !onlyFigures(figures) {
		return api.Node{}, api.ErrArg
	}
	led := strings.TrimLeft(figures, "0")
	if led == "" {
		return api.Node{Kind: api.Num}, api.OK
	}
	s := strings.TrimRight(led, "0")
	// A sum that goes round lands as far beyond the limits on the other side.
	n := api.Node{Kind: api.Num, S: s, Neg: neg, E: e + len(led) - len(s)}
	if !Right(n) {
		return api.Node{}, api.ErrLarge
	}
	return n, api.OK
}

// Cmp: which is greater?
func Cmp(a, b api.Node) int {
	side := sign(a)
	if c := cmp.Compare(side, sign(b)); c != 0 {
		return c
	}
	return side * cmpSize(a, b)
}

func sign(n api.Node) int {
	switch {
	case n.S == "":
		return 0
	case n.Neg:
		return -1
	}
	return 1
}

// cmpSize compares how far two numbers of one side are from nought: as first figures are not 0, the places ahead of the point tell first; as last ones are not 0, a text that goes on is greater.
func cmpSize(a, b api.Node) int {
	if c := cmp.Compare(len(a.S)+a.E, len(b.S)+b.E); c != 0 {
		return c
	}
	return cmp.Compare(a.S, b.S)
}

// Print: its text.
func Print(n api.Node) string {
	if n.Neg {
		return "-" + printSize(n.S, n.E)
	}
	return printSize(n.S, n.E)
}

func printSize(figures string, e int) string {
	switch {
	case figures == "":
		return "0"
	case e >= 0 && e <= widest-len(figures):
		return figures + strings.Repeat("0", e)
	case e >= -widest && e <= -1:
		return printPoint(figures, -e)
	}
	return figures + "e" + strconv.Itoa(e)
}

func printPoint(figures string, behind int) string {
	if lack := behind + 1 - len(figures); lack > 0 {
		figures = strings.Repeat("0", lack) + figures
	}
	point := len(figures) - behind
	return figures[:point] + "." + figures[point:]
}

func onlyFigures(s string) bool {
	for i := 0; i < len(s); i++ {
		if !isFigure(s[i]) {
			return false
		}
	}
	return true
}

func isFigure(c byte) bool { return '0' <= c && c <= '9' }
