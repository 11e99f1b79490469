package site

import (
	"slices"
	"strings"

	"porter/api"
	"porter/words"
)

// Dispatch tells where a request of this method and this target leads.
func (s *Site) Dispatch(method string, target string) (api.Found, api.Errno) {
	if !words.IsMethod(method) || !words.IsTarget(target) {
		return api.Found{}, api.ErrBad
	}
	path, behind := words.SplitTarget(target)
	if number, params, leads := s.lead(method, path); leads {
		return api.Found{Status: 200, Route: number, Params: params}, api.OK
	}
	if other, leads := s.leadOther(method, path); leads {
		location := strings.Clone(other + behind) // where nothing stands behind, the sum could lie in the target's memory
		return api.Found{Status: movedStatus(method), Location: location}, api.OK
	}
	if methods := s.allowed(path); len(methods) > 0 {
		return api.Found{Status: 405, Allow: strings.Join(methods, ", ")}, api.OK
	}
	return api.Found{Status: 404}, api.OK
}

// lead tells the route to which a method leads by a path, and whether there is one.
func (s *Site) lead(method string, path string) (int, []api.Param, bool) {
	number, params, errno := s.table.Find(method, path)
	if errno != api.OK && method == words.Head {
		number, params, errno = s.table.Find(words.Get, path)
	}
	return number, params, errno == api.OK
}

// leadOther tells the other path, and whether a method leads to a route by it.
func (s *Site) leadOther(method string, path string) (string, bool) {
	if path == "/" {
		return "", false
	}
	other, found := strings.CutSuffix(path, "/")
	if !found {
		other = path + "/"
	}
	_, _, leads := s.lead(method, other)
	return other, leads
}

func movedStatus(method string) int {
	if method == words.Get || method == words.Head {
		return 301
	}
	return 308
}

// allowed tells the methods that lead somewhere by a path, in the order of their bytes.
func (s *Site) allowed(path string) []string {
	methods := s.table.Methods(path)
	if slices.Contains(methods, words.Get) && !slices.Contains(methods, words.Head) {
		methods = append(methods, words.Head)
		slices.Sort(methods)
	}
	return methods
}
