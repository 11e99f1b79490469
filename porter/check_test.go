package porter_test

import (
	"fmt"
	"math"
	"strconv"
	"strings"
	"testing"

	"porter/api"
	"porter/porter"
)

// some are limits that Frame takes.
var some = api.Limits{Head: 100, Body: 10}

// route is one whose handler answers 200.
func route(method string, pattern string, kind int, text string, name string) api.Route {
	return api.Route{Method: method, Pattern: pattern, Handler: api.Handler{Kind: kind, Status: 200, Text: text, Name: name}}
}

// site is the site of the document's examples, with these wares.
func site(wares ...api.Ware) api.Config {
	return api.Config{Limits: some, Wares: wares, Routes: []api.Route{
		route("GET", "/hi/:name", api.Tell, "", "name"),
		route("GET", "/up", api.Break, "", ""),
		route("PUT", "/label/*x", api.Label, "X-It", "x"),
		route("GET", "/fix/", api.Fixed, "", ""),
	}}
}

func withRoutes(routes ...api.Route) api.Config { return api.Config{Limits: some, Routes: routes} }

func withWares(wares ...api.Ware) api.Config { return api.Config{Limits: some, Wares: wares} }

// manyRoutes are n that may stand together.
func manyRoutes(n int) []api.Route {
	var list []api.Route
	for i := range n {
		list = append(list, route("GET", "/"+strconv.Itoa(i), api.Fixed, "", ""))
	}
	return list
}

// manyWares are n that are right.
func manyWares(n int) []api.Ware {
	var list []api.Ware
	for range n {
		list = append(list, api.Ware{Kind: api.Save})
	}
	return list
}

// brief tells a value in words that are not too many.
func brief(v any) string { return fmt.Sprintf("%.400q", fmt.Sprintf("%+v", v)) }

func checkConfig(t *testing.T, c api.Config, number int, want api.Errno) {
	t.Helper()
	if n, e := porter.Check(c); n != number || e != want {
		t.Errorf("P13: Check(%s) = %d, %d, want %d, %d", brief(c), n, e, number, want)
	}
}

// checkHandler says whether a handler is right, as the second of two routes.
func checkHandler(t *testing.T, h api.Handler, right bool) {
	t.Helper()
	c := withRoutes(route("GET", "/", api.Fixed, "", ""), api.Route{Method: "GET", Pattern: "/a", Handler: h})
	if right {
		checkConfig(t, c, 0, api.OK)
	} else {
		checkConfig(t, c, 1, api.ErrHandler)
	}
}

// checkWare says whether a ware is right, as the third of three.
func checkWare(t *testing.T, w api.Ware, right bool) {
	t.Helper()
	c := withWares(append(manyWares(2), w)...)
	if right {
		checkConfig(t, c, 0, api.OK)
	} else {
		checkConfig(t, c, 2, api.ErrWare)
	}
}

func TestP13RightConfigurations(t *testing.T) {
	checkConfig(t, api.Config{Limits: some}, 0, api.OK)
	checkConfig(t, api.Config{Limits: some, Routes: []api.Route{}, Wares: []api.Ware{}}, 0, api.OK)
	checkConfig(t, site(), 0, api.OK)
	checkConfig(t, withRoutes(manyRoutes(api.MaxRoutes)...), 0, api.OK)
	checkConfig(t, withWares(manyWares(api.MaxWares)...), 0, api.OK)
	checkConfig(t, api.Config{Limits: wide, Routes: manyRoutes(api.MaxRoutes), Wares: manyWares(api.MaxWares)}, 0, api.OK)
}

func TestP13Limits(t *testing.T) {
	for _, head := range []int{math.MinInt, -32, 0, 31, 32, 33, 499, 500, 501, math.MaxInt} {
		for _, body := range []int{math.MinInt, -1, 0, 1, 199, 200, 201, math.MaxInt} {
			want := api.ErrArg
			if head >= 32 && head <= 500 && body >= 0 && body <= 200 {
				want = api.OK
			}
			checkConfig(t, api.Config{Limits: api.Limits{Head: head, Body: body}}, 0, want)
		}
	}
}

func TestP13TooMany(t *testing.T) {
	for _, n := range []int{25, 26, 100, 100000} {
		checkConfig(t, withRoutes(manyRoutes(n)...), 0, api.ErrFull)
		checkConfig(t, withRoutes(make([]api.Route, n)...), 0, api.ErrFull)
	}
	for _, n := range []int{7, 8, 25, 100000} {
		checkConfig(t, withWares(manyWares(n)...), 0, api.ErrFull)
		checkConfig(t, withWares(make([]api.Ware, n)...), 0, api.ErrFull)
	}
	checkConfig(t, api.Config{Routes: manyRoutes(25), Wares: manyWares(7)}, 0, api.ErrArg)
}

func TestP13RoutesTellTheirOwnNumber(t *testing.T) {
	a, b, put := route("GET", "/a", 0, "", ""), route("GET", "/b/*r", 0, "", ""), route("PUT", "/*r", 0, "", "")
	checkConfig(t, withRoutes(a, b, put, route("GET", "/:p", 0, "", "")), 3, api.ErrTaken)
	checkConfig(t, withRoutes(a, b, put, route("GET", "/b/", 0, "", "")), 3, api.ErrTaken)
	checkConfig(t, withRoutes(put, a, a), 2, api.ErrTaken)
	checkConfig(t, withRoutes(a, a, route("", "", -1, "", "")), 1, api.ErrTaken)
	checkConfig(t, withRoutes(a, b, put, route("get", "/a", 0, "", ""), route("HEAD", "/a", 0, "", ""), route("GET", "/b", 0, "", "")), 0, api.OK)
	for n := range api.MaxRoutes {
		for wrong, want := range map[api.Route]api.Errno{
			route("", "/a", 0, "", ""): api.ErrArg, route(strings.Repeat("A", 17), "/a", 0, "", ""): api.ErrArg, route("G T", "/a", 0, "", ""): api.ErrArg,
			route("GET", "", 0, "", ""): api.ErrPattern, route("GET", "/:", 0, "", ""): api.ErrPattern, route("GET", "/"+xs(64), 0, "", ""): api.ErrPattern,
			route("GET", "/a", -1, "", ""): api.ErrHandler, route("GET", "/a", api.Label, "", ""): api.ErrHandler,
		} {
			checkConfig(t, withRoutes(append(manyRoutes(n), wrong)...), n, want)
		}
	}
}

// faultyRoute is one with the faults that a number's bits say, in the order in which Check must name them.
func faultyRoute(pattern string, faults int) api.Route {
	r := route("PUT", pattern, api.Fixed, "", "")
	if faults&4 != 0 {
		r.Method = "GET"
	}
	if faults&1 != 0 {
		r.Method = "G T"
	}
	if faults&2 != 0 {
		r.Pattern = "/:"
	}
	if faults&8 != 0 {
		r.Handler.Status = 0
	}
	return r
}

// faultyWares are two, each with a fault if its bit of a number says so.
func faultyWares(faults int) []api.Ware {
	return []api.Ware{{Name: "X", Kind: 5 * (faults & 1)}, {Name: "X", Kind: 5 * (faults >> 1)}}
}

// firstFault tells by the document's order which of the faults Check must name.
func firstFault(one int, other int, wares int) (int, api.Errno) {
	for i, faults := range []int{one, other} {
		for bit, errno := range []api.Errno{api.ErrArg, api.ErrPattern, api.ErrTaken, api.ErrHandler} {
			if faults>>bit&1 != 0 {
				return i + 1, errno
			}
		}
	}
	for i := range 2 {
		if wares>>i&1 != 0 {
			return i, api.ErrWare
		}
	}
	return 0, api.OK
}

func TestP13TheFirstErrorOfAllMixes(t *testing.T) {
	for one := range 16 {
		for other := range 16 {
			for wares := range 4 {
				c := withRoutes(route("GET", "/*all", 0, "", ""), faultyRoute("/1", one), faultyRoute("/2", other))
				c.Wares = faultyWares(wares)
				number, want := firstFault(one, other, wares)
				checkConfig(t, c, number, want)
				full := c
				full.Routes = append(full.Routes, manyRoutes(22)...)
				checkConfig(t, full, 0, api.ErrFull)
				full = c
				full.Wares = append(full.Wares, manyWares(5)...)
				checkConfig(t, full, 0, api.ErrFull)
				full.Limits.Head = 31
				checkConfig(t, full, 0, api.ErrArg)
				c.Limits.Body = -1
				checkConfig(t, c, 0, api.ErrArg)
			}
		}
	}
}

var wrongKinds = []int{math.MinInt, -5, -1, 5, 6, 1 << 32, math.MaxInt}

func TestP13Handlers(t *testing.T) {
	for _, kind := range wrongKinds {
		checkHandler(t, api.Handler{Kind: kind, Status: 200, Text: "X"}, false)
	}
	for kind := api.Fixed; kind <= api.Break; kind++ {
		for _, status := range []int{math.MinInt, -200, -1, 0, 1, 100, 199, 600, 999, 1 << 32, math.MaxInt} {
			checkHandler(t, api.Handler{Kind: kind, Status: status, Text: "X"}, false)
		}
		for status := 200; status < 600; status++ {
			checkHandler(t, api.Handler{Kind: kind, Status: status, Text: "X"}, true)
		}
		for _, n := range []int{1, 99, 100, 101, 102, 100000} {
			checkHandler(t, api.Handler{Kind: kind, Status: 200, Text: xs(n)}, n <= api.MaxText)
			checkHandler(t, api.Handler{Kind: kind, Status: 200, Text: "X", Name: xs(n)}, true)
		}
		checkHandler(t, api.Handler{Kind: kind, Status: 200, Text: "X", Name: "no\r\nname\x00"}, true)
		checkHandler(t, api.Handler{Kind: kind, Status: 200, Text: ""}, kind != api.Label)
		checkHandler(t, api.Handler{Kind: kind, Status: 200, Text: "Content-Length"}, kind != api.Label)
		for c := range 256 {
			checkHandler(t, api.Handler{Kind: kind, Status: 599, Text: "X" + oneByte(c)}, kind != api.Label || has(tokenBytes, c))
		}
	}
}

func TestP13Wares(t *testing.T) {
	for _, kind := range wrongKinds {
		checkWare(t, api.Ware{Kind: kind, Name: "X"}, false)
	}
	for kind := api.Add; kind <= api.Copy; kind++ {
		for _, n := range []int{1, 99, 100, 101, 102, 100000} {
			checkWare(t, api.Ware{Kind: kind, Name: xs(n)}, n <= api.MaxText)
			checkWare(t, api.Ware{Kind: kind, Name: "X", Value: xs(n)}, n <= api.MaxText)
		}
		for _, limit := range []int{math.MinInt, -1, 0, 1, 201, math.MaxInt} {
			checkWare(t, api.Ware{Kind: kind, Name: "X", Limit: limit}, kind != api.Most || limit >= 0)
		}
		named := kind == api.Add || kind == api.Copy || kind == api.Guard
		checkWare(t, api.Ware{Kind: kind, Name: ""}, !named)
		checkWare(t, api.Ware{Kind: kind, Name: "Connection"}, !named || kind == api.Guard)
		for c := range 256 {
			checkWare(t, api.Ware{Kind: kind, Name: "X" + oneByte(c)}, !named || has(tokenBytes, c))
			checkWare(t, api.Ware{Kind: kind, Name: "X", Value: oneByte(c)}, true)
		}
	}
}

// checkLabel says whether a token may be a label, wherever one is asked for.
func checkLabel(t *testing.T, name string, right bool) {
	t.Helper()
	checkHandler(t, api.Handler{Kind: api.Label, Status: 200, Text: name}, right)
	checkWare(t, api.Ware{Kind: api.Add, Name: name}, right)
	checkWare(t, api.Ware{Kind: api.Copy, Name: name}, right)
	checkWare(t, api.Ware{Kind: api.Guard, Name: name}, true)
}

func TestP13Labels(t *testing.T) {
	for _, name := range []string{"Content-Length", "Transfer-Encoding", "Connection"} {
		checkLabel(t, strings.ToUpper(name), false)
		checkLabel(t, strings.ToLower(name), false)
		for i := range len(name) {
			checkLabel(t, name[:i]+strings.ToUpper(name[i:]), false)
			checkLabel(t, strings.ToLower(name[:i])+name[i:], false)
			checkLabel(t, name[:i]+"x"+name[i:], true)
			checkLabel(t, name[:i]+"!"+name[i+1:], true)
			checkLabel(t, name[:i]+name[i+1:], true)
		}
		checkLabel(t, name+"s", true)
		checkLabel(t, strings.ReplaceAll(name, "-", "_")+"_", true)
	}
	for _, name := range []string{"Host", "Location", "Allow", "Close", "9", "~", "Content", "Length", "ConnectioN2"} {
		checkLabel(t, name, true)
	}
}
