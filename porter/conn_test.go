package porter_test

import (
	"math"
	"strconv"
	"strings"
	"testing"

	"porter/api"
	"porter/porter"
)

func checkGive(t *testing.T, c *porter.Conn, s string, want api.Errno) {
	t.Helper()
	if e := c.Give(s); e != want {
		t.Errorf("P20: Give(%.90q) = %d, want %d", s, e, want)
	}
}

func checkEnd(t *testing.T, c *porter.Conn, want api.Errno) {
	t.Helper()
	if e := c.End(); e != want {
		t.Errorf("P21: End() = %d, want %d", e, want)
	}
}

func checkTake(t *testing.T, c *porter.Conn, n int, want string) {
	t.Helper()
	if s, e := c.Take(n); s != want || e != api.OK {
		t.Errorf("P21: Take(%d) = %.300q, %d, want %.300q", n, s, e, want)
	}
}

func checkNotTaken(t *testing.T, c *porter.Conn, n int) {
	t.Helper()
	if s, e := c.Take(n); s != "" || e != api.ErrArg {
		t.Errorf("P21: Take(%d) = %.90q, %d, want ErrArg alone", n, s, e)
	}
}

func checkStatus(t *testing.T, c *porter.Conn, requests int, held int, pending int, closed bool) {
	t.Helper()
	want := api.Status{Requests: requests, Held: held, Pending: pending, Closed: closed}
	if s := c.Status(); s != want {
		t.Errorf("P21: Status() = %+v, want %+v", s, want)
	}
}

// Requests to the site, and what is answered to them.
const (
	hello  = "GET /hi/you HTTP/1.1|Host: a||"
	you    = "HTTP/1.1 200 OK|Content-Length: 3||you"
	only   = "HEAD /hi/you HTTP/1.1|Host: a||"
	headed = "HTTP/1.1 200 OK|Content-Length: 3||"
	bye    = "GET /hi/me HTTP/1.1|Host: a|connection: Close||"
	me     = "HTTP/1.1 200 OK|Content-Length: 2|Connection: close||me"
	up     = "GET /up HTTP/1.1|Host: a||"
	gaveUp = "HTTP/1.1 500 Internal Server Error|Content-Length: 0|Connection: close||"
	saved  = "HTTP/1.1 500 Internal Server Error|Content-Length: 5||saved"
	lost   = "GET /x HTTP/1.1|Host: a||"
	none   = "HTTP/1.1 404 Not Found|Content-Length: 0||"
	bad    = "HTTP/1.1 400 Bad Request|Content-Length: 0|Connection: close||"
)

func TestExamplesOfAConnection(t *testing.T) {
	c := serve(t, site()).Open()
	checkGive(t, c, raw("GET /hi/you HTTP/1.1|Host: a||GET "), api.OK)
	checkStatus(t, c, 1, 4, 41, false)
	checkTake(t, c, 10000, raw("HTTP/1.1 200 OK|Content-Length: 3||you"))
	checkGive(t, c, "\n", api.OK)
	checkStatus(t, c, 1, 0, len(raw(bad)), true)
	checkTake(t, c, 10000, raw("HTTP/1.1 400 Bad Request|Content-Length: 0|Connection: close||"))
}

func TestP20Answers(t *testing.T) {
	for _, c := range []struct {
		in, out string
		closed  bool
	}{
		{hello, you, false}, {only, headed, false}, {bye, me, true}, {up, gaveUp, true}, {lost, none, false},
		{"HEAD /up HTTP/1.1|Host: a||", gaveUp, true}, {"HEAD /x HTTP/1.1|Host: a|Connection: close||", "HTTP/1.1 404 Not Found|Content-Length: 0|Connection: close||", true},
		{"GET /fix?q HTTP/1.1|Host: a||", "HTTP/1.1 301 Moved Permanently|Location: /fix/?q|Content-Length: 0||", false},
		{"PUT /label HTTP/1.1|Host: a||", "HTTP/1.1 308 Permanent Redirect|Location: /label/|Content-Length: 0||", false},
		{"POST /up HTTP/1.1|Host: a||", "HTTP/1.1 405 Method Not Allowed|Allow: GET, HEAD|Content-Length: 0||", false},
		{"PUT /label/a/b HTTP/1.1|Host: a||", "HTTP/1.1 200 OK|X-It: a/b|Content-Length: 0||", false},
		{"PUT /label/a%0d%0ab HTTP/1.1|Host: a||", "HTTP/1.1 500 Internal Server Error|Content-Length: 0||", false},
		{"GET /hi/%0d%0a HTTP/1.1|Host: a|Content-Length: 10||0123456789", "HTTP/1.1 200 OK|Content-Length: 2|||", false},
		{"GET /hi/a HTTP/1.1|Host: a|Transfer-Encoding: chunked||3|abc|0|X: y||", "HTTP/1.1 200 OK|Content-Length: 1||a", false},
	} {
		x := serve(t, site()).Open()
		checkGive(t, x, raw(c.in), api.OK)
		checkStatus(t, x, 1, 0, len(raw(c.out)), c.closed)
		checkTake(t, x, 1000, raw(c.out))
	}
}

// frameErrors are bytes for each error of Frame under the site's limits, and what is answered to them.
var frameErrors = []struct{ in, out string }{
	{"\n", "400 Bad Request"}, {"GET / HTTP/1.1\n", "400 Bad Request"}, {"GET / HTTP/1.1||", "400 Bad Request"}, {"GET /% HTTP/1.1|", "400 Bad Request"}, {"GET / HTTP/1.1|Host: a|a b|", "400 Bad Request"},
	{"GET / HTTP/1.1|Host: a|Transfer-Encoding: chunked||g|", "400 Bad Request"}, {"GET / HTTP/1.1|Host: a|Transfer-Encoding: chunked||1|abc", "400 Bad Request"}, {"GET / HTTP/1.1|Host: a|Transfer-Encoding: chunked||0|a b|", "400 Bad Request"},
	{"GET / HTTP/1.1|Host: a|Content-Length: 11||", "413 Content Too Large"}, {"GET / HTTP/1.1|Host: a|Transfer-Encoding: chunked||b|", "413 Content Too Large"}, {"HEAD / HTTP/1.1|Host: a|Transfer-Encoding: chunked||a|0123456789|1|", "413 Content Too Large"},
	{xs(100), "431 Request Header Fields Too Large"}, {"GET / HTTP/1.1|Host: " + xs(78), "431 Request Header Fields Too Large"}, {"GET / HTTP/1.1|Host: a|Transfer-Encoding: chunked||0|" + xs(100), "431 Request Header Fields Too Large"},
	{"GET / HTTP/1.1|Host: a|Transfer-Encoding: gzip||", "501 Not Implemented"}, {"HEAD / HTTP/1.1|Host: a|Transfer-Encoding: chunked|transfer-encoding: chunked||", "501 Not Implemented"},
	{"GET / HTTP/1.0|", "505 HTTP Version Not Supported"}, {"HEAD / HTTP/9.9|", "505 HTTP Version Not Supported"},
}

func TestP20ErrorsOfFrame(t *testing.T) {
	for _, c := range frameErrors {
		out := raw("HTTP/1.1 " + c.out + "|Content-Length: 0|Connection: close||")
		for _, behind := range []string{"", "x", raw(hello)} {
			x := serve(t, site(save, add("1"))).Open() // wares are around handlers alone
			checkGive(t, x, raw(c.in)+behind, api.OK)
			checkStatus(t, x, 0, 0, len(out), true)
			checkTake(t, x, 1000, out)
			checkGive(t, x, raw(hello), api.ErrClosed)
			checkStatus(t, x, 0, 0, 0, true)
		}
		x := serve(t, site()).Open()
		checkGive(t, x, raw(hello+lost+c.in+hello), api.OK)
		checkStatus(t, x, 2, 0, len(raw(you+none)+out), true)
		checkTake(t, x, 1000, raw(you+none)+out)
	}
}

// TestP20ErrorsComeWithTheirLastByte: each error of the list is there with the last of its bytes, and not ahead of it.
func TestP20ErrorsComeWithTheirLastByte(t *testing.T) {
	for _, c := range frameErrors {
		in, x := raw(c.in), serve(t, site()).Open()
		checkGive(t, x, in[:len(in)-1], api.OK)
		checkStatus(t, x, 0, len(in)-1, 0, false)
		checkGive(t, x, in[len(in)-1:], api.OK)
		checkTake(t, x, 1000, raw("HTTP/1.1 "+c.out+"|Content-Length: 0|Connection: close||"))
		checkStatus(t, x, 0, 0, 0, true)
	}
}

func TestP20AllButTheLastByte(t *testing.T) {
	for _, request := range []string{hello, only, bye, up, lost, "PUT /label/x HTTP/1.1|Host: a|Content-Length: 10||0123456789", "PUT /label/x HTTP/1.1|Host: a|Transfer-Encoding: chunked||3|abc|0|X: y||"} {
		in := raw(request)
		whole := serve(t, site()).Open()
		checkGive(t, whole, in, api.OK)
		out, _ := whole.Take(1000)
		for cut := range len(in) {
			s := serve(t, site())
			c := s.Open()
			checkGive(t, c, in[:cut], api.OK)
			checkStatus(t, c, 0, cut, 0, false)
			checkTake(t, c, 1000, "")
			checkHits(t, s, 0, 0, 0, 0)
			checkGive(t, c, in[cut:], api.OK)
			checkStatus(t, c, 1, 0, len(out), whole.Status().Closed)
			checkTake(t, c, 1000, out)
		}
	}
}

func TestP20NothingGiven(t *testing.T) {
	c := serve(t, site()).Open()
	checkStatus(t, c, 0, 0, 0, false)
	for i := range len(raw(hello)) {
		checkGive(t, c, "", api.OK)
		checkStatus(t, c, 0, i, 0, false)
		checkGive(t, c, raw(hello)[i:i+1], api.OK)
	}
	checkStatus(t, c, 1, 0, len(raw(you)), false)
	checkGive(t, c, "", api.OK)
	checkStatus(t, c, 1, 0, len(raw(you)), false)
	checkEnd(t, c, api.OK)
	checkGive(t, c, "", api.ErrClosed)
	checkStatus(t, c, 1, 0, len(raw(you)), true)
}

func TestP20SeveralRequestsInOneGive(t *testing.T) {
	c := serve(t, site(save)).Open()
	checkGive(t, c, raw(hello+only+up+lost+hello+"GET /hi"), api.OK)
	checkStatus(t, c, 5, 7, len(raw(you+headed+saved+none+you)), false)
	checkTake(t, c, 1000, raw(you+headed+saved+none+you))
	checkGive(t, c, raw("/x HTTP/1.1|Host: a||"+bye+hello), api.OK)
	checkStatus(t, c, 7, 0, len(raw("HTTP/1.1 200 OK|Content-Length: 1||x"+me)), true)
	checkTake(t, c, 1000, raw("HTTP/1.1 200 OK|Content-Length: 1||x"+me))
}

func TestP20ManyRequestsInOneGive(t *testing.T) {
	const many = 20000
	s := serve(t, site())
	c := s.Open()
	checkGive(t, c, strings.Repeat(raw(hello), many)+"G", api.OK)
	checkStatus(t, c, many, 1, many*len(raw(you)), false)
	for range many {
		checkTake(t, c, len(raw(you)), raw(you))
	}
	checkStatus(t, c, many, 1, 0, false)
	checkHits(t, s, many, 0, 0, 0)
}

// TestP20WhatComesBehindTheLastAnswer: behind an answer that closes nothing is read, in this Give or in a later one.
func TestP20WhatComesBehindTheLastAnswer(t *testing.T) {
	for in, out := range map[string]string{bye: me, up: gaveUp, "\n": bad, hello + bye: you + me, "POST /up HTTP/1.1|Host: a|Connection: close||": "HTTP/1.1 405 Method Not Allowed|Allow: GET, HEAD|Content-Length: 0|Connection: close||"} {
		for _, behind := range []string{"", "G", hello, bye, "\n", xs(10000)} {
			s := serve(t, site())
			c := s.Open()
			checkGive(t, c, raw(in+behind), api.OK)
			hits, status := s.Hits(), c.Status()
			if !status.Closed || status.Held != 0 || status.Pending != len(raw(out)) {
				t.Errorf("P20: behind Give(%q): %+v", in+behind, status)
			}
			checkGive(t, c, raw(behind), api.ErrClosed)
			checkHits(t, s, hits...)
			checkStatus(t, c, status.Requests, 0, len(raw(out)), true)
			checkTake(t, c, 1000, raw(out))
		}
	}
}

// TestP20LimitsAreTheConfigurations: each server frames by its own.
func TestP20LimitsAreTheConfigurations(t *testing.T) {
	config := site()
	for head := 40; head <= 60; head++ {
		for body := range 12 {
			config.Limits = api.Limits{Head: head, Body: body}
			for _, s := range []string{"PUT /label/ HTTP/1.1|Host:|Content-Length:9||123456789", "PUT /label/ HTTP/1.1|Host:||"} {
				c := serve(t, config).Open()
				checkGive(t, c, raw(s), api.OK)
				_, _, e := porter.Frame(config.Limits, raw(s))
				want := map[api.Errno]string{api.OK: "HTTP/1.1 200 ", api.ErrHead: "HTTP/1.1 431 ", api.ErrLarge: "HTTP/1.1 413 "}[e]
				if got, _ := c.Take(1000); want == "" || !strings.HasPrefix(got, want) || c.Status().Closed != (e != api.OK) {
					t.Errorf("P20: with the limits %v and Frame's error %d %q goes out, want %q", config.Limits, e, got, want)
				}
			}
		}
	}
}

// closings are all ways in which a connection is closed: what is given, and what is called then.
var closings = map[string]struct {
	in, out  string
	requests int
	call     func(c *porter.Conn)
}{
	"End of nothing":    {"", "", 0, func(c *porter.Conn) { c.End() }},
	"End":               {hello + "GET ", you, 1, func(c *porter.Conn) { c.End() }},
	"Fail of nothing":   {"", "", 0, (*porter.Conn).Fail},
	"Fail":              {hello + "GET ", "", 1, (*porter.Conn).Fail},
	"a request":         {hello + bye + hello, you + me, 2, func(*porter.Conn) {}},
	"an error":          {hello + "\n" + hello, you + bad, 1, func(*porter.Conn) {}},
	"what gives up":     {hello + up + hello, you + gaveUp, 2, func(*porter.Conn) {}},
	"a request, failed": {hello + bye + hello, "", 2, (*porter.Conn).Fail},
}

func TestP21BehindAClose(t *testing.T) {
	for name, w := range closings {
		s := serve(t, site())
		c, out := s.Open(), raw(w.out)
		checkGive(t, c, raw(w.in), api.OK)
		w.call(c)
		hits := s.Hits()
		for range 3 {
			checkStatus(t, c, w.requests, 0, len(out), true)
			for _, more := range []string{"", "x", raw(hello), "\n", xs(1000)} {
				checkGive(t, c, more, api.ErrClosed)
			}
			checkEnd(t, c, api.ErrClosed)
			checkNotTaken(t, c, -1)
			checkTake(t, c, 0, "")
			n := min(10, len(out))
			checkTake(t, c, n, out[:n])
			out = out[n:]
		}
		checkStatus(t, c, w.requests, 0, len(out), true)
		checkTake(t, c, len(out)/2, out[:len(out)/2])
		c.Fail()
		checkStatus(t, c, w.requests, 0, 0, true)
		checkTake(t, c, 1000, "")
		checkEnd(t, c, api.ErrClosed)
		checkGive(t, c, raw(hello), api.ErrClosed)
		checkHits(t, s, hits...)
		if t.Failed() {
			t.Fatalf("closed by %s", name)
		}
	}
}

// TestP21EndYieldsNothing: at each place of a request.
func TestP21EndYieldsNothing(t *testing.T) {
	in := raw(hello)
	for cut := range in {
		s := serve(t, site())
		c := s.Open()
		checkGive(t, c, in+in[:cut], api.OK)
		checkStatus(t, c, 1, cut, len(raw(you)), false)
		checkEnd(t, c, api.OK)
		checkStatus(t, c, 1, 0, len(raw(you)), true)
		checkTake(t, c, 1000, raw(you))
		checkEnd(t, c, api.ErrClosed)
		checkStatus(t, c, 1, 0, 0, true)
		checkHits(t, s, 1, 0, 0, 0)
	}
}

func TestP21TakeInPieces(t *testing.T) {
	out := raw(you + headed + none)
	for n := range len(out) + 2 {
		c := serve(t, site()).Open()
		checkTake(t, c, n, "")
		checkGive(t, c, raw(hello+only+lost+"GE"), api.OK)
		for left := out; left != ""; {
			checkTake(t, c, 0, "")
			checkStatus(t, c, 3, 2, len(left), false)
			next := left[:min(n+1, len(left))]
			checkTake(t, c, n+1, next)
			left = left[len(next):]
		}
		checkTake(t, c, n, "")
		checkStatus(t, c, 3, 2, 0, false)
	}
}

func TestP21TakeOfAnyNumber(t *testing.T) {
	for _, n := range []int{math.MinInt, math.MinInt + 1, -1 << 32, -41, -1} {
		c := serve(t, site()).Open()
		checkNotTaken(t, c, n)
		checkGive(t, c, raw(hello+"GE"), api.OK)
		checkNotTaken(t, c, n)
		checkStatus(t, c, 1, 2, 41, false)
		checkTake(t, c, 41, raw(you))
		checkEnd(t, c, api.OK)
		checkNotTaken(t, c, n)
		c.Fail()
		checkNotTaken(t, c, n)
		checkStatus(t, c, 1, 0, 0, true)
	}
	for _, n := range []int{41, 42, 1 << 32, math.MaxInt - 1, math.MaxInt} {
		c := serve(t, site()).Open()
		checkTake(t, c, n, "")
		checkGive(t, c, raw(hello), api.OK)
		checkTake(t, c, n, raw(you))
		checkTake(t, c, n, "")
		checkGive(t, c, raw(hello), api.OK)
		checkTake(t, c, 1, "H")
		checkTake(t, c, n, raw(you)[1:])
		checkStatus(t, c, 2, 0, 0, false)
	}
}

func TestP21FailThrowsAway(t *testing.T) {
	for n := range len(raw(you)) + 1 {
		c := serve(t, site()).Open()
		checkGive(t, c, raw(hello+"GE"), api.OK)
		checkTake(t, c, n, raw(you)[:n])
		c.Fail()
		checkStatus(t, c, 1, 0, 0, true)
		checkTake(t, c, 1000, "")
		checkEnd(t, c, api.ErrClosed)
		c.Fail()
		checkStatus(t, c, 1, 0, 0, true)
	}
}

// TestP2WhatWasTakenStays: what comes out later is not written over it.
func TestP2WhatWasTakenStays(t *testing.T) {
	c := serve(t, site()).Open()
	var taken, want []string
	for i := range 500 {
		name := strconv.Itoa(i)
		checkGive(t, c, raw("GET /hi/"+name+" HTTP/1.1|Host: a||"), api.OK)
		n := c.Status().Pending / 2
		s, _ := c.Take(n)
		taken = append(taken, s)
		want = append(want, raw("HTTP/1.1 200 OK|Content-Length: "+strconv.Itoa(len(name))+"||"+name))
	}
	s, _ := c.Take(10000)
	if strings.Join(taken, "")+s != strings.Join(want, "") {
		t.Errorf("P2: what was taken is now %.300q", taken)
	}
}

// TestP2ConnectionsHaveHitsAloneInCommon: what happens on one changes nothing on the others.
func TestP2ConnectionsHaveHitsAloneInCommon(t *testing.T) {
	s := serve(t, site())
	in := raw(hello)
	for name, w := range closings {
		a, b := s.Open(), s.Open()
		checkGive(t, a, in[:5], api.OK)
		checkGive(t, b, raw(w.in), api.OK)
		w.call(b)
		checkStatus(t, a, 0, 5, 0, false)
		checkGive(t, a, in[5:]+"GE", api.OK)
		checkStatus(t, b, w.requests, 0, len(raw(w.out)), true)
		checkTake(t, b, 1000, raw(w.out))
		checkStatus(t, a, 1, 2, len(raw(you)), false)
		checkStatus(t, s.Open(), 0, 0, 0, false)
		checkTake(t, a, 1000, raw(you))
		if t.Failed() {
			t.Fatalf("closed by %s", name)
		}
	}
}

func TestP1ConnectionsEndWithoutPanicAtAllTexts(t *testing.T) {
	s, w := serve(t, site(add("1"), doubly)), serve(t, api.Config{Limits: wide, Routes: site().Routes})
	for _, text := range append(longTexts(), strings.Repeat("\n", 1000000), strings.Repeat(raw(hello), 10000)) {
		for _, server := range []*porter.Server{s, w} {
			c := server.Open()
			checkGive(t, c, text, api.OK)
			c.Give(raw(hello))
			for _, n := range []int{math.MinInt, -1, 0, 1, 100, math.MaxInt} {
				if taken, e := c.Take(n); (e == api.ErrArg) != (n < 0) || len(taken) > max(n, 0) {
					t.Errorf("P1: Take(%d) = %.90q, %d", n, taken, e)
				}
			}
			c.End()
			c.Fail()
			if status := c.Status(); status.Held != 0 || status.Pending != 0 || !status.Closed {
				t.Errorf("P1: behind Fail() Status() = %+v", status)
			}
		}
	}
}
