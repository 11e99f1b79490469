package porter_test

import (
	"slices"
	"strings"
	"testing"

	"porter/api"
	"porter/porter"
)

func sameFound(a api.Found, b api.Found) bool {
	return a.Status == b.Status && a.Route == b.Route && slices.Equal(a.Params, b.Params) && a.Allow == b.Allow && a.Location == b.Location
}

func checkFound(t *testing.T, c api.Config, method string, target string, want api.Found) {
	t.Helper()
	if f, e := porter.Dispatch(c, method, target); e != api.OK || !sameFound(f, want) {
		t.Errorf("P14: Dispatch(%.30q, %.80q) = %+v, %d, want %+v", method, target, f, e, want)
	}
}

func checkNotDispatched(t *testing.T, c api.Config, method string, target string, want api.Errno) {
	t.Helper()
	if f, e := porter.Dispatch(c, method, target); e != want || !sameFound(f, api.Found{}) {
		t.Errorf("P14: Dispatch(%.30q, %.80q) = %+v, %d, want error %d alone", method, target, f, e, want)
	}
}

func leads(number int, namesAndValues ...string) api.Found {
	return api.Found{Status: 200, Route: number, Params: params(namesAndValues...)}
}

func moved(status int, location string) api.Found {
	return api.Found{Status: status, Location: location}
}

func allows(methods string) api.Found { return api.Found{Status: 405, Allow: methods} }

var nowhere = api.Found{Status: 404}

func TestExamplesOfDispatch(t *testing.T) {
	checkFound(t, site(), "HEAD", "/hi/you?x", leads(0, "name", "you"))
	checkFound(t, site(), "GET", "/fix?q", moved(301, "/fix/?q"))
	checkFound(t, site(), "PUT", "/label", moved(308, "/label/"))
	checkFound(t, site(), "POST", "/up", allows("GET, HEAD"))
	checkFound(t, site(), "GET", "/x", nowhere)
}

func TestP14ErrorsOfCheckComeFirst(t *testing.T) {
	for want, c := range map[api.Errno]api.Config{
		api.ErrArg: {}, api.ErrFull: withRoutes(manyRoutes(25)...), api.ErrPattern: withRoutes(route("GET", "", 0, "", "")),
		api.ErrTaken:   withRoutes(route("GET", "/", 0, "", ""), route("GET", "/", 0, "", "")),
		api.ErrHandler: withRoutes(route("GET", "/", 9, "", "")), api.ErrWare: withWares(api.Ware{Kind: 9}),
	} {
		checkNotDispatched(t, c, "GET", "/", want)
		checkNotDispatched(t, c, "", "", want)
		checkNotDispatched(t, c, "GET", "/%", want)
	}
}

// wrongMethods and wrongTargets are texts that are none.
var (
	wrongMethods = []string{"", " ", "G T", "GET ", " GET", "GET\r\n", "/", "é", "GET\x00", strings.Repeat("A", 17), xs(1000)}
	wrongTargets = []string{"", "a", "?", "?/", "*", " /", "/ ", "/a b", "/#", "/a?b#c", "/a?b c", "/%", "/%4", "/%4?1", "/%g0", "/a?\r\n", "/\x7f", "/\x80", "/\x00", "/é", "http://a/"}
)

func TestP14WrongMethodsAndTargets(t *testing.T) {
	for _, c := range []api.Config{site(), {Limits: some}, withRoutes(route("GET", "/*r", 0, "", "")), withRoutes(route("GET", "/", 0, "", ""))} {
		for _, method := range wrongMethods {
			checkNotDispatched(t, c, method, "/", api.ErrBad)
			checkNotDispatched(t, c, method, "a", api.ErrBad)
		}
		for _, target := range wrongTargets {
			checkNotDispatched(t, c, "GET", target, api.ErrBad)
			checkNotDispatched(t, c, "X", target, api.ErrBad)
		}
	}
	all := withRoutes(route(strings.Repeat("A", 16), "/*r", 0, "", ""))
	checkFound(t, all, strings.Repeat("A", 16), "/a?%", leads(0, "r", "a"))
}

func TestP14WhatStandsBehindThePath(t *testing.T) {
	for _, behind := range []string{"", "?", "?/", "??", "?a=b/", "?%", "?%4", "?/?", "?" + xs(1000)} {
		checkFound(t, site(), "GET", "/hi/you"+behind, leads(0, "name", "you"))
		checkFound(t, site(), "GET", "/fix"+behind, moved(301, "/fix/"+behind))
		checkFound(t, site(), "GET", "/hi/y%6fu/"+behind, moved(301, "/hi/y%6fu"+behind))
		checkFound(t, site(), "PUT", "/label"+behind, moved(308, "/label/"+behind))
		checkFound(t, site(), "PUT", "/up"+behind, allows("GET, HEAD"))
		checkFound(t, site(), "PUT", "/none"+behind, nowhere)
	}
}

func TestP14HeadLeadsWhereGetLeads(t *testing.T) {
	c := withRoutes(
		route("GET", "/a", 0, "", ""), route("HEAD", "/a/", 0, "", ""), route("GET", "/b", 0, "", ""), route("HEAD", "/b", 0, "", ""),
		route("HEAD", "/c", 0, "", ""), route("PUT", "/d", 0, "", ""), route("GET", "/e/:p", 0, "", ""), route("HEAD", "/e/x", 0, "", ""))
	checkFound(t, c, "HEAD", "/a", leads(0))
	checkFound(t, c, "HEAD", "/a/", leads(1))
	checkFound(t, c, "GET", "/a/", moved(301, "/a"))
	checkFound(t, c, "HEAD", "/b", leads(3))
	checkFound(t, c, "HEAD", "/b/", moved(301, "/b"))
	checkFound(t, c, "GET", "/c", allows("HEAD"))
	checkFound(t, c, "GET", "/c/", nowhere)
	checkFound(t, c, "HEAD", "/c/", moved(301, "/c"))
	checkFound(t, c, "HEAD", "/d", allows("PUT"))
	checkFound(t, c, "HEAD", "/d/", nowhere)
	checkFound(t, c, "HEAD", "/e/x", leads(7))
	checkFound(t, c, "GET", "/e/x", leads(6, "p", "x"))
	checkFound(t, c, "HEAD", "/e/y", leads(6, "p", "y"))
	checkFound(t, c, "HEAD", "/e/y/", moved(301, "/e/y"))
	checkFound(t, c, "head", "/a", allows("GET, HEAD"))
	checkFound(t, c, "get", "/e/y/", nowhere)
}

func TestP14OtherPaths(t *testing.T) {
	c := withRoutes(
		route("GET", "/", 0, "", ""), route("PUT", "//", 0, "", ""), route("GET", "/a", 0, "", ""), route("GET", "/b/", 0, "", ""),
		route("POST", "/c/:p", 0, "", ""), route("POST", "/d/*r", 0, "", ""), route("GET", "/e//", 0, "", ""))
	checkFound(t, c, "GET", "/", leads(0))
	checkFound(t, c, "GET", "//", moved(301, "/"))
	checkFound(t, c, "HEAD", "//?q", moved(301, "/?q"))
	checkFound(t, c, "PUT", "//", leads(1))
	checkFound(t, c, "PUT", "///", moved(308, "//"))
	checkFound(t, c, "PUT", "/", allows("GET, HEAD"))
	checkFound(t, c, "GET", "/a/", moved(301, "/a"))
	checkFound(t, c, "GET", "/a//", nowhere)
	checkFound(t, c, "GET", "/b", moved(301, "/b/"))
	checkFound(t, c, "GET", "/%62", moved(301, "/%62/"))
	checkFound(t, c, "POST", "/c/x/", moved(308, "/c/x"))
	checkFound(t, c, "POST", "/c/%2F/", moved(308, "/c/%2F"))
	checkFound(t, c, "POST", "/c/", nowhere)
	checkFound(t, c, "POST", "/c//", nowhere)
	checkFound(t, c, "POST", "/d", moved(308, "/d/"))
	checkFound(t, c, "POST", "/d/", leads(5, "r", ""))
	checkFound(t, c, "GET", "/d", nowhere)
	checkFound(t, c, "GET", "/e", nowhere)
	checkFound(t, c, "GET", "/e/", nowhere)
	checkFound(t, c, "GET", "/e//", leads(6))
	checkFound(t, c, "GET", "/e///", moved(301, "/e//"))
	checkFound(t, withRoutes(route("PUT", "//", 0, "", "")), "PUT", "/", nowhere)
	checkFound(t, api.Config{Limits: some}, "GET", "/", nowhere)
}

// TestP14TheOtherPathComesAheadOfAllow: 405 is told only where the other path leads nowhere either.
func TestP14TheOtherPathComesAheadOfAllow(t *testing.T) {
	c := withRoutes(route("GET", "/a", 0, "", ""), route("PUT", "/a/", 0, "", ""))
	checkFound(t, c, "PUT", "/a", moved(308, "/a/"))
	checkFound(t, c, "GET", "/a/", moved(301, "/a"))
	checkFound(t, c, "HEAD", "/a/", moved(301, "/a"))
	checkFound(t, c, "POST", "/a", allows("GET, HEAD"))
	checkFound(t, c, "POST", "/a/", allows("PUT"))
}

func TestP14Allow(t *testing.T) {
	var routes []api.Route
	for _, method := range []string{"b", "PUT", "GET", "A", "~", "HEADS", "H", "!"} {
		routes = append(routes, route(method, "/*r", 0, "", ""))
	}
	checkFound(t, withRoutes(routes...), "X", "/", allows("!, A, GET, H, HEAD, HEADS, PUT, b, ~"))
	routes[2].Method = "get"
	checkFound(t, withRoutes(routes...), "X", "/", allows("!, A, H, HEADS, PUT, b, get, ~"))
	routes[2].Method = "HEAD"
	checkFound(t, withRoutes(routes...), "X", "/", allows("!, A, H, HEAD, HEADS, PUT, b, ~"))
	routes[0].Method = "GET"
	checkFound(t, withRoutes(routes...), "X", "/", allows("!, A, GET, H, HEAD, HEADS, PUT, ~"))
	checkFound(t, withRoutes(route("GET", "/a", 0, "", ""), route("HEAD", "/b", 0, "", "")), "X", "/a", allows("GET, HEAD"))
	checkFound(t, withRoutes(route("ONE", "/a", 0, "", "")), "X", "/a", allows("ONE"))
}

// leadsTo tells by the document's words to which route a method leads by a path.
func leadsTo(c api.Config, method string, path string) (api.Found, bool) {
	for i, r := range c.Routes {
		if list, had := hasPath(r.Pattern, path); r.Method == method && had {
			return api.Found{Status: 200, Route: i, Params: list}, true
		}
	}
	if method == "HEAD" {
		return leadsTo(c, "GET", path)
	}
	return api.Found{}, false
}

func foundByWords(c api.Config, method string, path string, behind string) api.Found {
	if f, led := leadsTo(c, method, path); led {
		return f
	}
	other := path + "/"
	if strings.HasSuffix(path, "/") {
		other = path[:len(path)-1]
	}
	if _, led := leadsTo(c, method, other); led && other != "" {
		if method == "GET" || method == "HEAD" {
			return moved(301, other+behind)
		}
		return moved(308, other+behind)
	}
	var methods []string
	for _, r := range c.Routes {
		if _, had := hasPath(r.Pattern, path); had {
			methods = append(methods, r.Method)
			if r.Method == "GET" {
				methods = append(methods, "HEAD")
			}
		}
	}
	if methods == nil {
		return nowhere
	}
	slices.Sort(methods)
	return allows(strings.Join(slices.Compact(methods), ", "))
}

// TestP14AllSmallTargets lays routes into configurations as they may stand together, and holds Dispatch against the document's words.
func TestP14AllSmallTargets(t *testing.T) {
	patterns, methods := smallPatterns(), []string{"GET", "PUT", "HEAD", "GET", "G"}
	for from := range 20 {
		c := api.Config{Limits: some}
		for i := 0; i < len(patterns) && len(c.Routes) < 4+from; i++ {
			next := route(methods[i%len(methods)], patterns[(from*5+i*13)%len(patterns)], 0, "", "")
			c.Routes = append(c.Routes, next)
			if _, e := porter.Check(c); e != api.OK {
				c.Routes = c.Routes[:len(c.Routes)-1]
			}
		}
		for i, path := range grow([]string{"", "a", "b", "c", "%61"}, nil, 3) {
			behind := []string{"", "?", "?/x"}[i%3]
			for _, method := range []string{"GET", "HEAD", "PUT", "G", "POST"} {
				checkFound(t, c, method, path+behind, foundByWords(c, method, path, behind))
			}
		}
	}
}
