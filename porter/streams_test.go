package porter_test

import (
	"slices"
	"strconv"
	"strings"
	"testing"

	"porter/api"
	"porter/porter"
)

// outcome is what a stream of bytes comes to: its answers, to requests of these methods, the one that
// says why no more is read (to none) among them; and, when all is taken, how the connection is.
type outcome struct {
	answers, methods []string
	hits             []int
	status           api.Status
}

func (o outcome) out() string { return strings.Join(o.answers, "") }

func (o *outcome) say(method string, a api.Answer) {
	o.answers = append(o.answers, porter.Render(method, a))
	o.methods = append(o.methods, method)
	o.status.Closed = a.Close
}

var refusals = map[api.Errno]int{api.ErrBad: 400, api.ErrLarge: 413, api.ErrHead: 431, api.ErrCoding: 501, api.ErrVersion: 505}

// byWords tells by the document's words what a stream comes to.
func byWords(c api.Config, in string) outcome {
	o := outcome{hits: make([]int, len(c.Routes))}
	for !o.status.Closed {
		q, n, e := porter.Frame(c.Limits, in)
		switch e {
		case api.ErrMore:
			o.status.Held = len(in)
			return o
		case api.OK:
			in = in[n:]
			o.status.Requests++
			if f, _ := porter.Dispatch(c, q.Method, q.Target); f.Status == 200 {
				o.hits[f.Route]++
			}
			a, _ := porter.Reply(c, q)
			o.say(q.Method, a)
		default:
			o.say("", api.Answer{Status: refusals[e], Close: true})
		}
	}
	return o
}

// parts are bytes of which streams are made: whole requests, some that end a stream, some that are wrong or not whole.
var parts = []string{
	hello, only, bye, up, lost, "POST /up HTTP/1.1|Host: a||", "GET /fix HTTP/1.1|Host: a||",
	"PUT /label/a%0d%0ab HTTP/1.1|Host: a||", "PUT /label/z HTTP/1.1|Host: a|X: 1|Content-Length: 10||\nGET / x|",
	"GET /hi/%0d%0a%0d%0aHTTP HTTP/1.1|Host: a|X: HTTP/1.1 200 OK|Transfer-Encoding: chunked||3|a||3||x|0|Y: z||",
	"HEAD /up HTTP/1.1|Host: a||", "\n", "GET / HTTP/1.0|", "GET /hi/you HTTP/1.1|Ho", xs(100), "GET / HTTP/1.1|Host: a|Content-Length: 11||", "GET / HTTP/1.1|Host: a|Transfer-Encoding: x||",
}

// streams are all rows of at most n parts.
func streams(n int) []string {
	all := []string{""}
	for from := 0; n > 0; n-- {
		to := len(all)
		for _, ahead := range all[from:to] {
			for _, part := range parts {
				all = append(all, ahead+raw(part))
			}
		}
		from = to
	}
	return all
}

// configs are configurations whose texts try to break out of their lines and bodies.
func configs() []api.Config {
	nasty := "HTTP/1.1 200 OK\r\nContent-Length: 0\r\n\r\n"
	texts := withRoutes(route("GET", "/hi/:name", api.Fixed, nasty, ""), route("PUT", "/label/*x", api.Echo, "", ""), route("GET", "/up", api.Label, "Content-Lengths", "none"))
	texts.Wares = []api.Ware{save, add("a: b, Content-Length: 7")}
	for i := range texts.Routes {
		texts.Routes[i].Handler.Status = []int{204, 304, 599}[i]
	}
	return []api.Config{site(), site(save), site(add("x"), doubly, save, add("y")), site(save, add(nasty)), site(api.Ware{Kind: api.Guard, Name: "X", Value: "1"}, save), texts}
}

// speak gives a stream in pieces of some length, takes some bytes behind each, and at the end all.
func speak(x *porter.Conn, in string, piece int, most int) string {
	var out strings.Builder
	for ; in != ""; in = in[min(piece, len(in)):] {
		x.Give(in[:min(piece, len(in))])
		s, _ := x.Take(most)
		out.WriteString(s)
	}
	for left := x.Status().Pending; left > 0; left -= most + 1 {
		s, _ := x.Take(most + 1)
		out.WriteString(s)
	}
	return out.String()
}

// checkSpoken says whether a stream comes to this in pieces of some length.
func checkSpoken(t *testing.T, c api.Config, in string, piece int, most int, want outcome) {
	t.Helper()
	s := serve(t, c)
	x := s.Open()
	if out := speak(x, in, piece, most); out != want.out() {
		t.Fatalf("P22: of %q in pieces of %d, taken by %d, with %s: %q, want %q", in, piece, most, brief(c.Wares), out, want.answers)
	}
	if x.Status() != want.status || !slices.Equal(s.Hits(), want.hits) {
		t.Fatalf("P22: behind %q in pieces of %d, taken by %d, with %s: %+v, %d, want %+v, %d", in, piece, most, brief(c.Wares), x.Status(), s.Hits(), want.status, want.hits)
	}
}

func TestP22ThePiecesMakeNoDifference(t *testing.T) {
	for number, c := range configs() {
		length := 2
		if number == 0 {
			length = 3
		}
		for _, in := range streams(length) {
			want := byWords(c, in)
			checkSpoken(t, c, in, len(in)+1, 1<<40, want)
			checkSpoken(t, c, in, 1, 1, want)
			checkSpoken(t, c, in, 7, 3, want)
			checkSpoken(t, c, in, 31, 0, want)
		}
	}
}

func TestP22AllPieces(t *testing.T) {
	in := raw(hello + parts[8] + parts[9] + only + lost + bye + hello)
	want := byWords(site(), in)
	if want.status.Requests != 6 || !want.status.Closed {
		t.Fatalf("the stream comes to %+v", want)
	}
	for piece := 1; piece <= len(in); piece++ {
		for _, most := range []int{0, 1, 2, 10, piece, 1000} {
			checkSpoken(t, site(), in, piece, most, want)
		}
	}
	for i := range in {
		for _, j := range []int{i, i + 1, i + 2, i + 40, len(in)} {
			j = min(j, len(in))
			x := serve(t, site()).Open()
			for _, s := range []string{in[:i], in[i:j], in[j:]} {
				x.Give(s)
			}
			checkTake(t, x, 10000, want.out())
		}
	}
}

// TestP22OneAnswerForEachRequest counts requests as they are written down, not as Frame tells them.
func TestP22OneAnswerForEachRequest(t *testing.T) {
	for n := range 50 {
		for last, more := range map[string]string{"": "", "GET /": "", "\n": bad, "GET / HTTP/1.0|": "HTTP/1.1 505 HTTP Version Not Supported|Content-Length: 0|Connection: close||", bye + hello: me, up + "\n": gaveUp} {
			x := serve(t, site()).Open()
			checkGive(t, x, raw(strings.Repeat(hello+only, n)+last), api.OK)
			checkTake(t, x, 10000, raw(strings.Repeat(you+headed, n)+more))
		}
	}
}

// readBack reads an answer to a request of some method by the length that it tells, and what stands behind it.
func readBack(t *testing.T, s string, method string) (api.Answer, string) {
	t.Helper()
	head, rest, found := strings.Cut(s, "\r\n\r\n")
	lines := strings.Split(head, "\r\n")
	first, right := strings.CutPrefix(lines[0], "HTTP/1.1 ")
	if !found || !right || len(first) < 5 || first[3] != ' ' || strings.ContainsAny(strings.Join(lines, ""), "\r\n\x00") {
		t.Fatalf("P23: no answer: %q", s)
	}
	status, e := porter.Decimal(first[:3])
	if e != api.OK || first[4:] != porter.Reason(status) {
		t.Fatalf("P23: no status: %q", lines[0])
	}
	a := api.Answer{Status: status}
	var lengths []int
	for _, line := range lines[1:] {
		name, value, right := strings.Cut(line, ": ")
		switch {
		case !right || !porter.IsToken(name):
			t.Fatalf("P23: no field: %q", line)
		case strings.EqualFold(name, "Content-Length"):
			n, _ := porter.Decimal(value)
			lengths = append(lengths, n)
		case strings.EqualFold(name, "Transfer-Encoding"):
			t.Fatalf("P23: another coding: %q", s)
		case strings.EqualFold(name, "Connection"):
			a.Close = value == "close"
		default:
			a.Fields = append(a.Fields, api.Field{Name: name, Value: value})
		}
	}
	if len(lengths) != 1 || method != "HEAD" && len(rest) < lengths[0] {
		t.Fatalf("P23: lengths %v of %q", lengths, s)
	}
	if method != "HEAD" {
		a.Body, rest = rest[:lengths[0]], rest[lengths[0]:]
	}
	return a, rest
}

// checkReadsBack says whether what goes out is so many answers, of which the last alone may close.
func checkReadsBack(t *testing.T, c api.Config, in string) {
	t.Helper()
	want := byWords(c, in)
	left := speak(serve(t, c).Open(), in, 5, 7)
	for i, method := range want.methods {
		var a api.Answer
		a, left = readBack(t, left, method)
		if last := i == len(want.methods)-1; a.Close != (last && want.status.Closed) {
			t.Fatalf("P23: answer %d to %q: %s", i, in, brief(a))
		}
		if s := porter.Render(method, a); method != "HEAD" && s != want.answers[i] {
			t.Fatalf("P23: answer %d to %q read back: %q, want %q", i, in, s, want.answers[i])
		}
	}
	if left != "" {
		t.Fatalf("P23: behind the answers to %q: %q", in, left)
	}
}

func TestP23WhatGoesOutIsReadBack(t *testing.T) {
	for _, c := range configs() {
		for _, in := range streams(2) {
			checkReadsBack(t, c, in)
		}
	}
}

// TestP23ValuesAddNoAnswers lays every byte, and rows of them that end lines, wherever a value can come from.
func TestP23ValuesAddNoAnswers(t *testing.T) {
	texts := []string{"\r\n\r\n", "\r\n\r\n" + raw(you), "a\r\nContent-Length: 0", "\r\nConnection: close\r\n", "\n\n", "\x00"}
	for c := range 256 {
		texts = append(texts, oneByte(c), "a"+oneByte(c)+"b")
	}
	for _, text := range texts {
		path := ""
		for i := range len(text) {
			path += "%" + strconv.FormatInt(int64(text[i])+0x100, 16)[1:]
		}
		c := withRoutes(route("GET", "/t/*x", api.Tell, "", "x"), route("GET", "/l/*x", api.Label, "L", "x"), route("GET", "/f", api.Fixed, text, ""), route("GET", "/f/e/", api.Echo, "", ""))
		c.Limits = wide
		for _, wares := range [][]api.Ware{nil, {add(text)}, {doubly, save}, {{Kind: api.Guard, Name: "X", Value: text}}} {
			c.Wares = wares
			var in strings.Builder
			for _, way := range []string{"GET /t/", "GET /l/", "HEAD /t/", "GET /f/", "GET /f/e/", "PUT /t/", "GET /nowhere/"} {
				in.WriteString(raw(way + path + " HTTP/1.1|Host: a|X: y||"))
				in.WriteString(raw(strings.TrimSuffix(way, "/")) + raw(" HTTP/1.1|Host: a|Content-Length: "+strconv.Itoa(len(text))+"||") + text)
			}
			if want := byWords(c, in.String()); want.status.Requests != 14 || len(want.answers) != 14 {
				t.Fatalf("P23: %q comes to %+v", in.String(), want)
			}
			checkReadsBack(t, c, in.String())
			checkReadsBack(t, c, raw(hello+"GET /t/ HTTP/1.1|Host: a|X: ")+text+raw("||"+hello))
		}
	}
}

// TestP24FailAtEachPlace: behind Fail nothing goes out any more, and ahead of it what would have gone out without it.
func TestP24FailAtEachPlace(t *testing.T) {
	for _, c := range []api.Config{site(), site(save)} {
		for _, in := range streams(2) {
			want := byWords(c, in).out()
			for _, most := range []int{0, 1, 50, 1000} {
				checkFails(t, c, in, 5, most, want)
			}
		}
	}
}

func checkFails(t *testing.T, c api.Config, in string, piece int, most int, want string) {
	t.Helper()
	s := serve(t, c)
	for place := 0; place <= len(in)+piece; place += piece {
		x := s.Open()
		var out strings.Builder
		for i := 0; i < len(in); i += piece {
			if i == place {
				x.Fail()
			}
			x.Give(in[i:min(i+piece, len(in))])
			taken, _ := x.Take(most)
			out.WriteString(taken)
			if i >= place && taken != "" {
				t.Fatalf("P24: behind Fail, at %d of %q, goes out %q", place, in, taken)
			}
		}
		x.Fail()
		rest, e := x.Take(10000)
		if !strings.HasPrefix(want, out.String()) || rest != "" || e != api.OK || !x.Status().Closed {
			t.Fatalf("P24: with Fail at %d of %q goes out %q and %q, want a beginning of %q", place, in, out.String(), rest, want)
		}
	}
}

// TestP21EndAtEachPlace: what goes out is what the bytes ahead of End come to.
func TestP21EndAtEachPlace(t *testing.T) {
	for _, in := range streams(2) {
		whole := byWords(site(), in).out()
		for place := 0; place <= len(in); place += 3 {
			want := byWords(site(), in[:place])
			x := serve(t, site()).Open()
			x.Give(in[:place])
			if e := x.End(); (e == api.ErrClosed) != want.status.Closed {
				t.Fatalf("P21: End at %d of %q = %d", place, in, e)
			}
			checkGive(t, x, in[place:], api.ErrClosed)
			checkStatus(t, x, want.status.Requests, 0, len(want.out()), true)
			checkTake(t, x, 10000, want.out())
			if !strings.HasPrefix(whole, want.out()) {
				t.Fatalf("P22: %q comes to %q, but its first %d bytes to %q", in, whole, place, want.out())
			}
		}
	}
}

// TestP25GivingUpHarmsNoOtherConnection lets connections speak by turns, byte by byte, some of which meet what gives up.
func TestP25GivingUpHarmsNoOtherConnection(t *testing.T) {
	for _, c := range []api.Config{site(), site(save), site(add("1"), save)} {
		ins := []string{raw(hello + up + hello), raw(up + up), raw(hello + only + lost + hello), raw(lost + bye), raw(up), raw(only + "HEAD /up HTTP/1.1|Host: a||" + hello)}
		s := serve(t, c)
		var conns []*porter.Conn
		for range ins {
			conns = append(conns, s.Open())
		}
		for i := range 200 {
			for k, in := range ins {
				if i < len(in) {
					conns[k].Give(in[i : i+1])
				}
			}
		}
		hits := make([]int, len(c.Routes))
		for k, in := range ins {
			want := byWords(c, in)
			checkTake(t, conns[k], 10000, want.out())
			checkStatus(t, conns[k], want.status.Requests, want.status.Held, 0, want.status.Closed)
			for i, n := range want.hits {
				hits[i] += n
			}
		}
		checkHits(t, s, hits...)
		checkGive(t, s.Open(), raw(hello), api.OK)
	}
}

// TestP25GivingUpHarmsNoOtherRequest: those around it are answered as if it had not been there.
func TestP25GivingUpHarmsNoOtherRequest(t *testing.T) {
	others, answers := []string{hello, lost, only, hello, lost}, []string{you, none, headed, you, none}
	for place := range len(others) + 1 {
		s := serve(t, site(save))
		x := s.Open()
		checkGive(t, x, raw(strings.Join(slices.Insert(slices.Clone(others), place, up, up), "")), api.OK)
		checkTake(t, x, 10000, raw(strings.Join(slices.Insert(slices.Clone(answers), place, saved, saved), "")))
		checkStatus(t, x, len(others)+2, 0, 0, false)
		checkHits(t, s, 3, 2, 0, 0)
		closing := serve(t, site())
		x = closing.Open()
		checkGive(t, x, raw(strings.Join(slices.Insert(slices.Clone(others), place, up, up), "")), api.OK)
		checkTake(t, x, 10000, raw(strings.Join(answers[:place], "")+gaveUp))
		checkStatus(t, x, place+1, 0, 0, true)
		checkHits(t, closing, byWords(site(), raw(strings.Join(others[:place], ""))).hits[0], 1, 0, 0)
	}
}

func FuzzP22ThePiecesMakeNoDifference(f *testing.F) {
	for i, in := range streams(1) {
		f.Add(uint8(i), uint8(i), uint8(3*i), in+raw(hello)+in)
	}
	for i, s := range seeds {
		f.Add(uint8(i), uint8(i), uint8(i), s+s)
	}
	all := configs()
	f.Fuzz(func(t *testing.T, number uint8, piece uint8, most uint8, in string) {
		c := all[int(number)%len(all)]
		want := byWords(c, in)
		checkSpoken(t, c, in, len(in)+1, 1<<40, want)
		checkSpoken(t, c, in, 1+int(piece), int(most), want)
		checkReadsBack(t, c, in)
		checkFails(t, c, in, 1+int(piece), int(most), want.out())
	})
}
