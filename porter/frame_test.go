package porter_test

import (
	"fmt"
	"reflect"
	"strings"
	"testing"

	"porter/api"
	"porter/porter"
)

var wide = api.Limits{Head: api.MaxHead, Body: api.MaxBody}

const (
	start   = "GET / HTTP/1.1|Host: a|"
	chunked = start + "Transfer-Encoding: chunked||"
	lumps   = "POST /a HTTP/1.1|Host: a|Transfer-Encoding: chunked||3|abc|0a|0123456789|0|X: y||"
)

// raw turns each | into CR LF, as the document's examples write it.
func raw(s string) string { return strings.ReplaceAll(s, "|", "\r\n") }

func xs(n int) string { return strings.Repeat("x", n) }

// checkRefused says whether Frame refuses s with this error, and tells nothing beside it.
func checkRefused(t *testing.T, l api.Limits, s string, want api.Errno) {
	t.Helper()
	q, n, e := porter.Frame(l, s)
	if e != want || n != 0 || !reflect.DeepEqual(q, api.Request{}) {
		t.Errorf("Frame(%v, %.90q) = %q, %d, %d, want error %d alone", l, s, q, n, e, want)
	}
}

// checkFramed says whether Frame tells just this request, of all bytes of s but the last `behind`.
func checkFramed(t *testing.T, l api.Limits, s string, behind int, want api.Request) {
	t.Helper()
	q, n, e := porter.Frame(l, s)
	if e != api.OK || n != len(s)-behind || !reflect.DeepEqual(q, want) {
		t.Errorf("Frame(%v, %.90q) = %q, %d, %d, want %q, %d", l, s, q, n, e, want, len(s)-behind)
	}
}

func checkAnswer(t *testing.T, l api.Limits, s string, want api.Errno) {
	t.Helper()
	if want != api.OK {
		checkRefused(t, l, s, want)
	} else if _, n, e := porter.Frame(l, s); e != api.OK || n != len(s) {
		t.Errorf("Frame(%v, %.90q) = .., %d, %d, want %d, OK", l, s, n, e, len(s))
	}
}

func TestP5RequestsAsTheyCame(t *testing.T) {
	host := api.Field{Name: "Host", Value: "a"}
	coding := api.Field{Name: "Transfer-Encoding", Value: "chunked"}
	for _, c := range []struct {
		s, behind string
		want      api.Request
	}{
		{"GET /hi/you HTTP/1.1|Host: a||", "", api.Request{Method: "GET", Target: "/hi/you", Fields: []api.Field{host}}},
		{"GET / HTTP/1.1|Host: a||", "\n\r\x00", api.Request{Method: "GET", Target: "/", Fields: []api.Field{host}}},
		{lumps, "3", api.Request{Method: "POST", Target: "/a", Fields: []api.Field{host, coding}, Body: "abc0123456789"}},
		{"pUt /A?b?%zz HTTP/1.1|x:|hOsT:\t \ta\tb \t|x:y:z|X: \x80\xff|CONTENT-length: 004||\r\n\x00\xff", "tail",
			api.Request{Method: "pUt", Target: "/A?b?%zz", Fields: []api.Field{{Name: "x"}, {Name: "hOsT", Value: "a\tb"},
				{Name: "x", Value: "y:z"}, {Name: "X", Value: "\x80\xff"}, {Name: "CONTENT-length", Value: "004"}}, Body: "\r\n\x00\xff"}},
		{start + "Content-Length: 0||", "abc", api.Request{Method: "GET", Target: "/", Fields: []api.Field{host, {Name: "Content-Length", Value: "0"}}}},
		{start + "Content-Length: 2|content-length: 02||ab", "c", api.Request{Method: "GET", Target: "/",
			Fields: []api.Field{host, {Name: "Content-Length", Value: "2"}, {Name: "content-length", Value: "02"}}, Body: "ab"}},
	} {
		checkFramed(t, wide, raw(c.s)+c.behind, len(c.behind), c.want)
	}
}

func TestP5LimitsThatMayNotBe(t *testing.T) {
	whole := raw(start + "|")
	for _, c := range []struct {
		l api.Limits
		e api.Errno
	}{
		{api.Limits{Head: 32, Body: 0}, api.OK}, {api.Limits{Head: 500, Body: 200}, api.OK},
		{api.Limits{Head: 31, Body: 0}, api.ErrArg}, {api.Limits{Head: 501, Body: 0}, api.ErrArg},
		{api.Limits{Head: 32, Body: -1}, api.ErrArg}, {api.Limits{Head: 500, Body: 201}, api.ErrArg},
		{api.Limits{Head: -100, Body: 10}, api.ErrArg}, {api.Limits{Head: 100, Body: -10}, api.ErrArg}, {api.Limits{}, api.ErrArg},
	} {
		checkAnswer(t, c.l, whole, c.e)
		if c.e != api.OK { // ahead of everything else
			checkRefused(t, c.l, "", c.e)
			checkRefused(t, c.l, "\n", c.e)
			checkRefused(t, c.l, xs(1000), c.e)
		}
	}
}

func TestP5HeadOfEveryLength(t *testing.T) {
	for head := api.MinHead; head <= api.MaxHead; head++ {
		l := api.Limits{Head: head}
		s := raw("GET /" + xs(head-len(raw("GET / HTTP/1.1|Host:||"))) + " HTTP/1.1|Host:||")
		if len(s) != head {
			t.Fatalf("a head of %d bytes for %d", len(s), head)
		}
		checkAnswer(t, l, s, api.OK)
		checkRefused(t, l, s[:head-1], api.ErrMore)
		checkRefused(t, l, s[:head-2]+"X\n", api.ErrBad)    // an LF that is the last to be looked at
		checkRefused(t, l, s[:head-2]+"X\r\n", api.ErrHead) // one that is too far to be looked at
		longer := strings.Replace(s, "/", "/x", 1)
		checkRefused(t, l, longer, api.ErrHead)
		checkRefused(t, l, longer[:head], api.ErrHead)
		checkRefused(t, l, longer[:head-1], api.ErrMore)
		checkRefused(t, l, xs(head-1), api.ErrMore)
		checkRefused(t, l, xs(head), api.ErrHead)
	}
}

func TestP5HeadsLimitIsOfTheHeadAlone(t *testing.T) {
	head := raw("GET / HTTP/1.1|Host:|Content-Length:200||")
	s := head + strings.Repeat("\n", 200)
	checkAnswer(t, api.Limits{Head: len(head), Body: 200}, s, api.OK)
	checkRefused(t, api.Limits{Head: len(head) - 1, Body: 200}, s, api.ErrHead)
}

func TestP5FirstLine(t *testing.T) {
	for _, c := range []struct {
		line string
		e    api.Errno
	}{
		{"G / HTTP/1.1", api.OK}, {"ABCDEFGHIJKLMNOP / HTTP/1.1", api.OK}, {"ABCDEFGHIJKLMNOPQ / HTTP/1.1", api.ErrBad},
		{tokenBytes[len(tokenBytes)-15:] + " / HTTP/1.1", api.OK}, {"GET /a/%41%2f?%4#", api.ErrBad}, {"GET /a/%41%2f?%4%? HTTP/1.1", api.OK},
		{"", api.ErrBad}, {" ", api.ErrBad}, {"  ", api.ErrBad}, {"GET", api.ErrBad}, {"GET /", api.ErrBad}, {"GET / ", api.ErrBad},
		{" / HTTP/1.1", api.ErrBad}, {"GET  HTTP/1.1", api.ErrBad}, {" GET / HTTP/1.1", api.ErrBad}, {"GET / HTTP/1.1 ", api.ErrBad},
		{"GET  / HTTP/1.1", api.ErrBad}, {"GET /  HTTP/1.1", api.ErrBad}, {"GET / / HTTP/1.1", api.ErrBad}, {"GET\t/ HTTP/1.1", api.ErrBad},
		{"G:T / HTTP/1.1", api.ErrBad}, {"GET a HTTP/1.1", api.ErrBad}, {"GET * HTTP/1.1", api.ErrBad}, {"GET ?/ HTTP/1.1", api.ErrBad},
		{"GET http://a/ HTTP/1.1", api.ErrBad}, {"GET /%4 HTTP/1.1", api.ErrBad}, {"GET /%?41 HTTP/1.1", api.ErrBad}, {"GET /?# HTTP/1.1", api.ErrBad},
		{"GET / HTTP/1.1\r", api.ErrBad}, {"GET / HTTP/11", api.ErrBad}, {"GET / HTTP/1.", api.ErrBad}, {"GET / HTTP/.1", api.ErrBad},
		{"GET / HTTP/1,1", api.ErrBad}, {"GET / HTTP/1.1x", api.ErrBad}, {"GET / HTTP/1.10", api.ErrBad}, {"GET / HTTP/x.1", api.ErrBad},
		{"GET / HTTP/1.x", api.ErrBad}, {"GET / http/1.1", api.ErrBad}, {"GET / HTTP 1.1", api.ErrBad}, {"GET / XHTTP/1.1", api.ErrBad},
		{"G(T / HTTP/1.0", api.ErrBad}, {"GET a HTTP/1.0", api.ErrBad}, {"GET / HTTP/1.0 ", api.ErrBad},
	} {
		checkAnswer(t, wide, c.line+raw("|Host: a||"), c.e)
	}
}

func TestP5EveryVersion(t *testing.T) {
	for a := range 10 {
		for b := range 10 {
			want := api.ErrVersion
			if a == 1 && b == 1 {
				want = api.OK
			}
			line := fmt.Sprintf("GET / HTTP/%d.%d\r\n", a, b)
			checkAnswer(t, wide, line+raw("Host: a||"), want)
			if want != api.OK { // as soon as the line is there, whatever is behind
				checkRefused(t, wide, line, want)
				checkRefused(t, wide, line+"\n", want)
				checkRefused(t, wide, line+xs(600), want)
			}
		}
	}
}

func TestP5EveryByteOfTargetsAndFields(t *testing.T) {
	answer := func(right bool) api.Errno {
		if right {
			return api.OK
		}
		return api.ErrBad
	}
	for c := range 256 {
		b := oneByte(c)
		target := c >= 33 && c <= 126 && c != '#'
		checkAnswer(t, wide, raw("GET /a")+b+raw("a HTTP/1.1|Host: a||"), answer(target && c != '%'))
		checkAnswer(t, wide, raw("GET /?a")+b+raw("a HTTP/1.1|Host: a||"), answer(target))
		checkAnswer(t, wide, raw("GET ")+b+raw("a HTTP/1.1|Host: a||"), answer(c == '/'))
		value := c == '\t' || c >= 32 && c <= 126 || c >= 128
		name := has(tokenBytes, c)
		for _, v := range []struct {
			line  string
			right bool
		}{
			{"X: a" + b + "a", value}, {"X: " + b, value}, {"X:" + b + "a", value}, {"X: a" + b, value},
			{"x" + b + "x: a", name || c == ':'}, {b + "x: a", name}, {"x" + b + ": a", name || c == ':'}, {b + ": a", name},
		} {
			checkAnswer(t, wide, raw(start)+v.line+raw("||"), answer(v.right))
			checkAnswer(t, wide, raw(chunked+"0|")+v.line+raw("||"), answer(v.right))
		}
	}
}

func TestP5FieldLines(t *testing.T) {
	for _, line := range []string{"X", " X: y", "\tX: y", "X : y", "X\t: y", ": y", ":", "X y", "X: a\r", "\r", " ", "X: a\rb", "X\x00: y"} {
		checkRefused(t, wide, raw(start)+line+"\r\n", api.ErrBad) // ahead of the head's end
		checkRefused(t, wide, raw(start)+line+"\r\n\r\n", api.ErrBad)
	}
	for _, s := range []string{"\n", "X: y\n", "X\n\r\n"} {
		checkRefused(t, wide, raw(start)+s, api.ErrBad)
	}
}

func TestP5EndOfHead(t *testing.T) {
	const first = "GET / HTTP/1.1|"
	for _, c := range []struct {
		s string
		e api.Errno
	}{
		{first + "|", api.ErrBad}, {first + "Hosts: a||", api.ErrBad}, {first + "hOST:||", api.OK},
		{first + "Host: a|Host: a||", api.ErrBad}, {first + "Host: a|HOST: b||", api.ErrBad}, {first + "Host: a|X: y|host:||", api.ErrBad},
		{first + "Transfer-Encoding: gzip||", api.ErrBad}, {first + "Content-Length: 201||", api.ErrBad},
		{start + "Transfer-Encoding: gzip|Content-Length: 3||", api.ErrBad}, {start + "content-length: 201|TRANSFER-ENCODING: chunked||", api.ErrBad},
		{start + "Content-Length: x|Transfer-Encoding: gzip||", api.ErrBad},
		{start + "Content-Length: 201|Content-Length: x||", api.ErrBad}, {start + "Content-Length: 201|Content-Length: 202||", api.ErrBad},
		{start + "Content-Length: 0|Content-Length: 1||", api.ErrBad}, {start + "Content-Length: 1|X: y|content-length: 0||", api.ErrBad},
		{start + "Content-Length: 1|Content-Length: 1|Content-Length: 2||", api.ErrBad}, {start + "Content-Length: 1|Content-Length: 01||x", api.OK},
		{start + "Content-Length:||", api.ErrBad}, {start + "Content-Length: -1||", api.ErrBad}, {start + "Content-Length: +1||", api.ErrBad},
		{start + "Content-Length: 1 1||", api.ErrBad}, {start + "Content-Length: 3, 3||", api.ErrBad}, {start + "Content-Length: 0x1||", api.ErrBad},
		{start + "Content-Length: 0000000001||", api.ErrBad}, {start + "Content-Length: 000000001||x", api.OK},
		{start + "Transfer-Encoding:||", api.ErrCoding}, {start + "Transfer-Encoding: gzip, chunked||", api.ErrCoding},
		{start + "Transfer-Encoding: chunked|Transfer-Encoding: chunked||0||", api.ErrCoding}, {start + "Transfer-Encoding: chunked|transfer-encoding: x||", api.ErrCoding},
		{start + "Transfer-Encoding: chunke||", api.ErrCoding}, {start + "Transfer-Encoding: chunkedd||", api.ErrCoding},
		{start + "Transfer-Encoding: chun\u212Aed||0||", api.ErrCoding}, // the Kelvin sign is no letter A to Z
		{start + "tRANSFER-eNCODING: cHUNKED||0||", api.OK}, {start + "Transfer-Encoding: \t chunked \t||0||", api.OK},
		{start + "Content-Length: 200||" + xs(200), api.OK}, {start + "Content-Length: 201||" + xs(201), api.ErrLarge}, {start + "Content-Length: 999999999||", api.ErrLarge},
		{start + "Content-Length: 201|Content-Length: 0201||", api.ErrLarge},
	} {
		checkAnswer(t, wide, raw(c.s), c.e)
	}
	for _, s := range []string{first + "Host: a|Host: b|", start + "Transfer-Encoding: gzip|", start + "Content-Length: x|", start + "Content-Length: 201|"} {
		checkRefused(t, wide, raw(s), api.ErrMore) // the fields are held together at the head's end, not sooner
		checkRefused(t, wide, raw(s+"X|"), api.ErrBad)
		checkRefused(t, wide, raw(s)+xs(500), api.ErrHead)
	}
}

func TestP5BodyOfEveryLength(t *testing.T) {
	for n := range api.MaxBody + 1 {
		s := raw(start+"Content-Length: "+fmt.Sprint(n)+"||") + xs(n)
		checkAnswer(t, api.Limits{Head: 100, Body: n}, s, api.OK)
		if n > 0 {
			checkRefused(t, api.Limits{Head: 100, Body: n}, s[:len(s)-1], api.ErrMore)
			checkRefused(t, api.Limits{Head: 100, Body: n - 1}, s, api.ErrLarge)
			checkRefused(t, api.Limits{Head: 100, Body: n - 1}, s[:len(s)-n], api.ErrLarge)
		}
	}
}

func TestP6Chunks(t *testing.T) {
	for _, c := range []struct {
		s, body string
	}{
		{"0||", ""}, {"00000000||", ""}, {"1|a|0||", "a"}, {"00000001|a|0||", "a"}, {"1|a|1|b|2|cd|0||", "abcd"}, {"4|\r\n\r\n|0||", "\r\n\r\n"},
		{"A|0123456789|0||", "0123456789"}, {"a|0123456789|0||", "0123456789"}, {"c8|" + xs(200) + "|0||", xs(200)},
		{"64|" + xs(100) + "|64|" + xs(100) + "|0||", xs(200)}, {"0|X: y|Y:z||", ""}, {"0|Host: b|Content-Length: 5|Transfer-Encoding: gzip||", ""},
	} {
		q, n, e := porter.Frame(wide, raw(chunked+c.s)+"0\n")
		if e != api.OK || n != len(raw(chunked+c.s)) || q.Body != c.body || len(q.Fields) != 2 {
			t.Errorf("Frame(.. %q) = %q, %d, %d, want the body %q", c.s, q, n, e, c.body)
		}
	}
}

func TestP6WrongChunks(t *testing.T) {
	for _, c := range []struct {
		s string
		e api.Errno
	}{
		{"", api.ErrMore}, {"3", api.ErrMore}, {"3\r", api.ErrMore}, {"3|", api.ErrMore}, {"3|abc", api.ErrMore}, {"3|abc\r", api.ErrMore}, {"3|abcxx", api.ErrBad},
		{"3|abcx", api.ErrMore}, {"3|abc|", api.ErrMore}, {"0|", api.ErrMore}, {"0|\r", api.ErrMore}, {"0|X: y|", api.ErrMore}, {"x", api.ErrMore}, {"xxxxxxxxx", api.ErrMore},
		{"xxxxxxxxxx", api.ErrBad}, {"00000000\r\n", api.ErrMore}, {"000000000\n", api.ErrBad}, {"000000000|", api.ErrBad}, {"000000000\r", api.ErrBad}, {"000000000", api.ErrMore},
		{"|", api.ErrBad}, {"\n", api.ErrBad}, {"3\n", api.ErrBad}, {"x|", api.ErrBad}, {"3 |", api.ErrBad}, {" 3|", api.ErrBad}, {"+3|", api.ErrBad}, {"-1|", api.ErrBad}, {"0x3|", api.ErrBad}, {"3;x|", api.ErrBad}, {"3\r\r\n", api.ErrBad},
		{"3|abcd|", api.ErrBad}, {"3|abc\r\r", api.ErrBad}, {"3|abc\n\n", api.ErrBad}, {"3|abc\n\r", api.ErrBad}, {"3|ab||", api.ErrBad},
		{"c9|", api.ErrLarge}, {"ffffffff|", api.ErrLarge}, {"c8|" + xs(200) + "|1|", api.ErrLarge}, {"c8|" + xs(200) + "|ffffffff|", api.ErrLarge}, {"1|x|c8|", api.ErrLarge},
		{"c8|" + xs(200) + "|1", api.ErrMore}, {"c8|" + xs(200) + "xx1|", api.ErrBad}, {"c9\n", api.ErrBad}, {"c8|" + xs(200) + "|0||", api.OK},
		{"0|X|", api.ErrBad}, {"0| X: y|", api.ErrBad}, {"0|X: y\n", api.ErrBad}, {"0|\n", api.ErrBad}, {"0|: y|", api.ErrBad}, {"0|X: \x7f|", api.ErrBad}, {"0|X: y|X|", api.ErrBad}, {"0|abc|", api.ErrBad},
		{"0|" + xs(499), api.ErrMore}, {"0|" + xs(500), api.ErrHead}, {"0|X|" + xs(500), api.ErrBad}, {"0|X: y|" + xs(500), api.ErrHead},
	} {
		checkAnswer(t, wide, raw(chunked+c.s), c.e)
	}
}

func TestP6LinesBehindOfEveryLength(t *testing.T) {
	least := len(raw(chunked))
	for head := least; head <= api.MaxHead; head++ {
		l := api.Limits{Head: head, Body: 3}
		before := raw(chunked + "3|abc|0|")
		s := before + raw("X:y|X:"+xs(head-len(raw("X:y|X:||")))+"||") // behind the size line just Head bytes
		checkAnswer(t, l, s, api.OK)
		checkRefused(t, l, s[:len(s)-1], api.ErrMore)
		longer := strings.Replace(s, "X:y", "X:yy", 1)
		checkRefused(t, l, longer, api.ErrHead)
		checkRefused(t, l, longer[:len(longer)-1], api.ErrHead)
		checkRefused(t, l, longer[:len(longer)-2], api.ErrMore)
	}
}

func TestP6SizesUpToTheLimit(t *testing.T) {
	for body := range api.MaxBody + 1 {
		l := api.Limits{Head: 100, Body: body}
		checkAnswer(t, l, raw(chunked+strings.Repeat("1|x|", body)+"0||"), api.OK)
		checkRefused(t, l, raw(chunked+strings.Repeat("1|x|", body)+"1|"), api.ErrLarge)
		checkRefused(t, l, raw(chunked+fmt.Sprintf("%x|", body+1)), api.ErrLarge)
	}
}

func TestExamplesOfFrame(t *testing.T) {
	hello := raw("GET /hi/you HTTP/1.1|Host: a||")
	checkAnswer(t, api.Limits{Head: 33}, hello, api.OK)
	checkRefused(t, api.Limits{Head: 32}, hello, api.ErrHead)
	for k := range hello {
		checkRefused(t, api.Limits{Head: 33}, hello[:k], api.ErrMore)
	}
	if _, n, e := porter.Frame(wide, raw(lumps)); n != 92 || e != api.OK {
		t.Errorf("Frame of the chunks = %d, %d", n, e)
	}
	checkRefused(t, api.Limits{Head: 500, Body: 12}, raw(lumps), api.ErrLarge)
	checkRefused(t, wide, raw(strings.Replace(lumps, "|3|", "|3;x|", 1)), api.ErrBad)
	checkRefused(t, wide, raw("GET / HTTP/1.0|"), api.ErrVersion)
	checkRefused(t, wide, "GET / HTTP/1.1\n", api.ErrBad)
}
