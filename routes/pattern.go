// Package routes knows patterns, the paths that they have, and tables of them.
package routes

import (
	"strings"

	"porter/api"
	"porter/words"
)

type kind int

const (
	fixed kind = iota
	parameter
	rest
)

// piece is a piece of a pattern: its text is the name, or the whole piece if it is fixed.
type piece struct {
	kind kind
	text string
}

// pattern is the pieces of a pattern; there is one at least.
type pattern []piece

// readPattern tells the pattern that a text is.
func readPattern(s string) (pattern, api.Errno) {
	if len(s) > api.MaxPattern || !strings.HasPrefix(s, "/") {
		return nil, api.ErrPattern
	}
	texts := strings.Split(strings.Clone(s[1:]), "/") // the names come out in answers, which share nothing with s
	p := make(pattern, 0, len(texts))
	for i, text := range texts {
		next, right := readPiece(text)
		last := i == len(texts)-1
		if !right || next.kind == rest && !last || p.hasName(next) {
			return nil, api.ErrPattern
		}
		p = append(p, next)
	}
	return p, api.OK
}

func readPiece(text string) (piece, bool) {
	if name, found := strings.CutPrefix(text, ":"); found {
		return piece{parameter, name}, words.IsName(name)
	}
	if name, found := strings.CutPrefix(text, "*"); found {
		return piece{rest, name}, words.IsName(name)
	}
	return piece{fixed, text}, words.IsFixed(text)
}

// hasName tells whether some piece of the pattern has the name of this one.
func (p pattern) hasName(other piece) bool {
	for _, own := range p {
		if own.kind != fixed && other.kind != fixed && own.text == other.text {
			return true
		}
	}
	return false
}

// match tells what the parameters and the rest stand for in a path, and whether the pattern has it.
func (p pattern) match(path string) ([]api.Param, bool) {
	var params []api.Param
	left, more := path[1:], true
	for _, own := range p {
		if !more {
			return nil, false
		}
		var raw string
		if own.kind == rest {
			raw, more = left, false
		} else {
			raw, left, more = strings.Cut(left, "/")
		}
		text, _ := words.Unescape(raw) // a path's pieces are taken, since a path is
		if !own.takes(text) {
			return nil, false
		}
		if own.kind != fixed {
			params = append(params, api.Param{Name: own.text, Value: text})
		}
	}
	if more {
		return nil, false
	}
	return params, true
}

// takes tells whether a piece agrees with what Unescape made of a path's piece.
func (own piece) takes(text string) bool {
	switch own.kind {
	case fixed:
		return text == own.text
	case parameter:
		return text != ""
	}
	return true
}

// overlaps tells whether there is a path that both patterns have.
func (p pattern) overlaps(q pattern) bool {
	for i := range min(len(p), len(q)) {
		if p[i].kind == rest || q[i].kind == rest {
			return true // each piece is had by some text, so what the rest meets can be filled in
		}
		if !p[i].meets(q[i]) {
			return false
		}
	}
	return len(p) == len(q)
}

// meets tells whether there is a text that both pieces take; neither is a rest.
func (own piece) meets(other piece) bool {
	if own.kind == fixed {
		return other.takes(own.text)
	}
	return other.kind == parameter || own.takes(other.text)
}

// Match tells what a pattern's parameters and its rest stand for in a path.
func Match(text string, path string) ([]api.Param, api.Errno) {
	p, errno := readPattern(text)
	if errno != api.OK {
		return nil, errno
	}
	if !words.IsPath(path) {
		return nil, api.ErrBad
	}
	params, had := p.match(path)
	if !had {
		return nil, api.ErrNone
	}
	return params, api.OK
}

// Overlap tells whether two patterns have a path in common.
func Overlap(one string, other string) (bool, api.Errno) {
	p, errno := readPattern(one)
	if errno != api.OK {
		return false, errno
	}
	q, errno := readPattern(other)
	if errno != api.OK {
		return false, errno
	}
	return p.overlaps(q), api.OK
}
