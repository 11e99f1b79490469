package porter_test

import (
	"slices"
	"strings"
	"sync"
	"testing"
	"unsafe"

	"porter/api"
	"porter/porter"
)

func serve(t *testing.T, c api.Config) *porter.Server {
	t.Helper()
	s, e := porter.NewServer(c)
	if s == nil || e != api.OK {
		t.Fatalf("P19: NewServer(%s) = %v, %d", brief(c), s, e)
	}
	return s
}

func checkNoServer(t *testing.T, c api.Config, want api.Errno) {
	t.Helper()
	if s, e := porter.NewServer(c); s != nil || e != want {
		t.Errorf("P19: NewServer(%s) = %v, %d, want nil, %d", brief(c), s, e, want)
	}
}

func checkHits(t *testing.T, s *porter.Server, want ...int) {
	t.Helper()
	if l := s.Hits(); !slices.Equal(l, want) {
		t.Errorf("P19: Hits() = %v, want %v", l, want)
	}
}

func TestP19ErrorsOfCheck(t *testing.T) {
	checkNoServer(t, api.Config{}, api.ErrArg)
	checkNoServer(t, api.Config{Limits: api.Limits{Head: 31}}, api.ErrArg)
	checkNoServer(t, api.Config{Limits: api.Limits{Head: 500, Body: 201}}, api.ErrArg)
	checkNoServer(t, withRoutes(manyRoutes(25)...), api.ErrFull)
	checkNoServer(t, withWares(manyWares(7)...), api.ErrFull)
	checkNoServer(t, withRoutes(route("G T", "/", 0, "", "")), api.ErrArg)
	checkNoServer(t, withRoutes(route("GET", "", 0, "", "")), api.ErrPattern)
	checkNoServer(t, withRoutes(route("GET", "/a", 0, "", ""), route("GET", "/:p", 0, "", "")), api.ErrTaken)
	checkNoServer(t, withRoutes(route("GET", "/", 9, "", "")), api.ErrHandler)
	checkNoServer(t, withWares(save, api.Ware{Kind: 9}), api.ErrWare)
	full := withRoutes(manyRoutes(24)...)
	full.Wares = manyWares(6)
	checkHits(t, serve(t, full), make([]int, 24)...)
	checkHits(t, serve(t, api.Config{Limits: some}))
}

// TestP19TheFirstErrorOfAllMixes: it is the one that Check names.
func TestP19TheFirstErrorOfAllMixes(t *testing.T) {
	for one := range 16 {
		for other := range 16 {
			for wares := range 4 {
				c := withRoutes(route("GET", "/*all", 0, "", ""), faultyRoute("/1", one), faultyRoute("/2", other))
				c.Wares = faultyWares(wares)
				if _, want := firstFault(one, other, wares); want == api.OK {
					serve(t, c)
				} else {
					checkNoServer(t, c, want)
				}
			}
		}
	}
}

func TestP19HitsAreOfWhatLedToARoute(t *testing.T) {
	s := serve(t, site())
	checkHits(t, s, 0, 0, 0, 0)
	for _, c := range []struct {
		request string
		want    []int
	}{
		{"GET /hi/you", []int{1, 0, 0, 0}}, {"HEAD /hi/me?q", []int{2, 0, 0, 0}}, {"GET /h%69/%00", []int{3, 0, 0, 0}},
		{"GET /up", []int{3, 1, 0, 0}}, {"HEAD /up", []int{3, 2, 0, 0}}, {"PUT /label/", []int{3, 2, 1, 0}}, {"PUT /label/%0a", []int{3, 2, 2, 0}}, {"GET /fix/", []int{3, 2, 2, 1}},
		{"GET /fix", []int{3, 2, 2, 1}}, {"HEAD /hi/you/", []int{3, 2, 2, 1}}, {"PUT /label", []int{3, 2, 2, 1}}, {"POST /up", []int{3, 2, 2, 1}}, {"HEAD /label/a", []int{3, 2, 2, 1}}, {"GET /x", []int{3, 2, 2, 1}}, {"GET /", []int{3, 2, 2, 1}},
	} {
		checkGive(t, s.Open(), raw(c.request+" HTTP/1.1|Host: a||"), api.OK)
		checkHits(t, s, c.want...)
	}
}

// TestP19WaresThatLetNothingByStillCount: it counts where a request led, not what came of it.
func TestP19WaresThatLetNothingByStillCount(t *testing.T) {
	s := serve(t, site(guard, api.Ware{Kind: api.Most}, add("\r\n")))
	c := s.Open()
	checkGive(t, c, raw("GET /hi/you HTTP/1.1|Host: a||GET /up HTTP/1.1|Host: a|Key: k|Content-Length: 1||xGET /fix/ HTTP/1.1|Host: a|Key: k||"), api.OK)
	checkTake(t, c, 1000, raw("HTTP/1.1 403 Forbidden|Content-Length: 0||HTTP/1.1 413 Content Too Large|Content-Length: 0||HTTP/1.1 500 Internal Server Error|Content-Length: 0||"))
	checkHits(t, s, 1, 1, 0, 1)
}

// TestP19WhatIsNotReadDoesNotCount: of a request that is not whole, not of the form, or behind the last.
func TestP19WhatIsNotReadDoesNotCount(t *testing.T) {
	s := serve(t, site())
	whole := raw("GET /hi/you HTTP/1.1|Host: a||")
	for i := range len(whole) {
		checkGive(t, s.Open(), whole[:i], api.OK)
	}
	checkGive(t, s.Open(), raw("GET /hi/you HTTP/1.1|Host: a|Content-Length: 11||"), api.OK)
	checkHits(t, s, 0, 0, 0, 0)
	c := s.Open()
	checkGive(t, c, raw("GET /hi/you HTTP/1.1|Host: a|Connection: close||")+whole, api.OK)
	checkGive(t, c, whole, api.ErrClosed)
	checkHits(t, s, 1, 0, 0, 0)
	c = s.Open()
	c.Fail()
	checkGive(t, c, whole, api.ErrClosed)
	checkHits(t, s, 1, 0, 0, 0)
}

func TestP19HitsStayBehindAClose(t *testing.T) {
	s := serve(t, site())
	c := s.Open()
	checkGive(t, c, raw("GET /hi/you HTTP/1.1|Host: a||"), api.OK)
	c.Fail()
	checkHits(t, s, 1, 0, 0, 0)
}

// TestP19HitsAreCountedTogether uses many connections at the same time.
func TestP19HitsAreCountedTogether(t *testing.T) {
	s := serve(t, site(save))
	stream := raw("GET /hi/you HTTP/1.1|Host: a||GET /up HTTP/1.1|Host: a||HEAD /hi/you HTTP/1.1|Host: a||GET /x HTTP/1.1|Host: a||")
	want := raw("HTTP/1.1 200 OK|Content-Length: 3||youHTTP/1.1 500 Internal Server Error|Content-Length: 5||savedHTTP/1.1 200 OK|Content-Length: 3||HTTP/1.1 404 Not Found|Content-Length: 0||")
	var all sync.WaitGroup
	for range 16 {
		all.Go(func() {
			c := s.Open()
			for range 200 {
				c.Give(stream[:40])
				c.Give(stream[40:])
				if got, _ := c.Take(1000); got != want {
					t.Errorf("P2: on one of many connections %q goes out", got)
				}
				s.Hits()
			}
		})
	}
	all.Wait()
	checkHits(t, s, 16*200*2, 16*200, 0, 0)
}

func TestP2ServersHaveNothingToDoWithOneAnother(t *testing.T) {
	c := site()
	one, other := serve(t, c), serve(t, c)
	a, b := one.Open(), other.Open()
	request, answer := raw("GET /hi/you HTTP/1.1|Host: a||"), raw("HTTP/1.1 200 OK|Content-Length: 3||you")
	for i := range len(request) {
		checkGive(t, a, request[i:i+1], api.OK)
		checkStatus(t, b, 0, 0, 0, false)
	}
	checkStatus(t, a, 1, 0, len(answer), false)
	checkHits(t, one, 1, 0, 0, 0)
	checkHits(t, other, 0, 0, 0, 0)
	checkGive(t, b, raw("GET /up HTTP/1.1|Host: a||"), api.OK)
	checkHits(t, one, 1, 0, 0, 0)
	checkHits(t, other, 0, 1, 0, 0)
	checkTake(t, a, 1000, answer)
	checkStatus(t, a, 1, 0, 0, false)
	checkHits(t, serve(t, c), 0, 0, 0, 0)
}

func TestP2ListsOfHitsAreTheCallers(t *testing.T) {
	s := serve(t, site())
	c := s.Open()
	request := raw("GET /hi/you HTTP/1.1|Host: a||")
	checkGive(t, c, request, api.OK)
	kept, first := s.Hits(), s.Hits()
	spoil(first, 77)
	_ = append(first[:2], 88)
	checkHits(t, s, 1, 0, 0, 0)
	checkGive(t, c, request, api.OK)
	checkHits(t, s, 2, 0, 0, 0)
	if !slices.Equal(kept, []int{1, 0, 0, 0}) {
		t.Errorf("P2: a list that came out earlier is now %v", kept)
	}
}

// fleeting is a text whose memory is written over by what comes beside it.
func fleeting(s string) (string, func()) {
	memory := []byte(s)
	return unsafe.String(unsafe.SliceData(memory), len(memory)), func() { spoil(memory, '!') }
}

// fleetingConfig is a configuration whose texts and lists, with the room behind them, can be written over.
func fleetingConfig(c api.Config) (api.Config, func()) {
	var all []func()
	text := func(s *string) {
		made, spoiler := fleeting(*s)
		*s = made
		all = append(all, spoiler)
	}
	c.Routes, c.Wares = roomy(c.Routes, api.Route{}), roomy(c.Wares, api.Ware{})
	for i := range c.Routes {
		r := &c.Routes[i]
		for _, s := range []*string{&r.Method, &r.Pattern, &r.Handler.Text, &r.Handler.Name} {
			text(s)
		}
	}
	for i := range c.Wares {
		text(&c.Wares[i].Name)
		text(&c.Wares[i].Value)
	}
	return c, func() {
		for _, spoiler := range all {
			spoiler()
		}
		spoil(c.Routes, route("POST", "/*spoilt", api.Fixed, "spoilt", ""))
		spoil(c.Wares, add("spoilt"))
	}
}

func TestP2ServersKeepNothingThatWasHandedIn(t *testing.T) {
	plain := site(add("1"), doubly, guard, save)
	plain.Routes = append(plain.Routes, route("GET", "/text", api.Fixed, "a text", ""))
	c, spoiler := fleetingConfig(plain)
	s := serve(t, c)
	x := s.Open()
	spoiler()
	for _, way := range []string{"GET /hi/you", "PUT /label/a", "GET /text", "GET /up", "GET /fix", "PUT /up", "PUT /label", "POST /a"} {
		method, target, _ := strings.Cut(way, " ")
		request, gone := fleeting(raw(way + " HTTP/1.1|Host: a|X: 1|Key: k|x: 2||"))
		for _, cut := range []int{0, 1, 5, 20, len(request) - 1} {
			checkGive(t, x, request[:cut], api.OK)
			rest := strings.Clone(request[cut:])
			gone()
			checkGive(t, x, rest, api.OK)
			a, _ := porter.Reply(plain, ask(method, target, "X", "1", "Key", "k", "x", "2"))
			checkTake(t, x, 1000, porter.Render(method, a))
			request, gone = fleeting(raw(way + " HTTP/1.1|Host: a|X: 1|Key: k|x: 2||"))
		}
	}
	checkHits(t, s, 5, 5, 5, 0, 5)
}

func TestP2ServersWriteIntoNothing(t *testing.T) {
	c, q := given()
	wantC, _ := withRoom(c, q)
	x := serve(t, c).Open()
	for _, way := range []string{"GET /hi/you", "PUT /label/a", "GET /up", "GET /fix", "PUT /up", "HEAD /x"} {
		checkGive(t, x, raw(way+" HTTP/1.1|Host: a|X: 1|x: 2||"), api.OK)
	}
	checkNoServer(t, api.Config{Routes: c.Routes, Wares: c.Wares}, api.ErrArg)
	if gotC, _ := withRoom(c, q); brief(gotC) != brief(wantC) || !slices.Equal(gotC.Routes, wantC.Routes) || !slices.Equal(gotC.Wares, wantC.Wares) {
		t.Errorf("P2: what was handed in is now %s", brief(gotC))
	}
}
