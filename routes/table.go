package routes

import (
	"slices"
	"strings"

	"porter/api"
	"porter/words"
)

type entry struct {
	method  string
	pattern pattern
}

// Table is patterns, each for a method. No two of one method have a path in common.
type Table struct {
	entries []entry
}

// Add lays a pattern into the table, and tells its number, or that of the one that is in its way.
func (t *Table) Add(method string, text string) (int, api.Errno) {
	if !words.IsMethod(method) {
		return 0, api.ErrArg
	}
	p, errno := readPattern(text)
	if errno != api.OK {
		return 0, errno
	}
	if len(t.entries) >= api.MaxRoutes {
		return 0, api.ErrFull
	}
	for number, e := range t.entries {
		if e.method == method && e.pattern.overlaps(p) {
			return number, api.ErrTaken
		}
	}
	t.entries = append(t.entries, entry{strings.Clone(method), p})
	return len(t.entries) - 1, api.OK
}

// Find tells the number of the pattern that has a path, and what Match tells of them.
func (t *Table) Find(method string, path string) (int, []api.Param, api.Errno) {
	if !words.IsPath(path) {
		return 0, nil, api.ErrBad
	}
	for number, e := range t.entries {
		if e.method != method {
			continue
		}
		if params, had := e.pattern.match(path); had {
			return number, params, api.OK
		}
	}
	return 0, nil, api.ErrNone
}

// Methods tells all methods for which some pattern has a path, in the order of their bytes. Each comes
// once, since no two patterns of one method have a path in common.
func (t *Table) Methods(path string) []string {
	if !words.IsPath(path) {
		return nil
	}
	var methods []string
	for _, e := range t.entries {
		if _, had := e.pattern.match(path); had {
			methods = append(methods, e.method)
		}
	}
	slices.Sort(methods)
	return methods
}
