package porter_test

import (
	"math"
	"strconv"
	"testing"

	"porter/api"
	"porter/porter"
)

func checkRendered(t *testing.T, method string, a api.Answer, want string) {
	t.Helper()
	if s := porter.Render(method, a); s != want {
		t.Errorf("P18: Render(%.30q, %s) = %.300q, want %.300q", method, brief(a), s, want)
	}
}

func TestP18Render(t *testing.T) {
	you := api.Answer{Status: 200, Body: "you"}
	checkRendered(t, "GET", you, raw("HTTP/1.1 200 OK|Content-Length: 3||you"))
	you.Close = true
	checkRendered(t, "GET", you, raw("HTTP/1.1 200 OK|Content-Length: 3|Connection: close||you"))
	you.Fields = fields("B", "2", "A", "", "B", "1")
	checkRendered(t, "POST", you, raw("HTTP/1.1 200 OK|B: 2|A: |B: 1|Content-Length: 3|Connection: close||you"))
	you.Close = false
	checkRendered(t, "PUT", you, raw("HTTP/1.1 200 OK|B: 2|A: |B: 1|Content-Length: 3||you"))
	checkRendered(t, "GET", api.Answer{}, raw("HTTP/1.1 0 Status|Content-Length: 0||"))
	checkRendered(t, "GET", api.Answer{Fields: []api.Field{}}, raw("HTTP/1.1 0 Status|Content-Length: 0||"))
}

// TestP18Head: the length is that of the body that is left away.
func TestP18Head(t *testing.T) {
	a := api.Answer{Status: 404, Fields: fields("A", "b"), Body: "body"}
	checkRendered(t, "HEAD", a, raw("HTTP/1.1 404 Not Found|A: b|Content-Length: 4||"))
	for _, method := range []string{"", "GET", "head", "Head", "HEAD ", "HEADS", "HEA", "\x00"} {
		checkRendered(t, method, a, raw("HTTP/1.1 404 Not Found|A: b|Content-Length: 4||body"))
	}
	a.Close = true
	checkRendered(t, "HEAD", a, raw("HTTP/1.1 404 Not Found|A: b|Content-Length: 4|Connection: close||"))
	checkRendered(t, "HEAD", api.Answer{}, raw("HTTP/1.1 0 Status|Content-Length: 0||"))
}

func TestP18Statuses(t *testing.T) {
	for status, number := range map[int]string{
		0: "0", 1: "1", 7: "7", 10: "10", 99: "99", 299: "299", 599: "599", 1000: "1000", -1: "-1", -200: "-200", -10: "-10",
		math.MaxInt64: "9223372036854775807", math.MinInt64: "-9223372036854775808",
	} {
		checkRendered(t, "GET", api.Answer{Status: status}, raw("HTTP/1.1 "+number+" Status|Content-Length: 0||"))
	}
	for status := -1000; status < 1000; status++ {
		checkRendered(t, "GET", api.Answer{Status: status}, raw("HTTP/1.1 "+strconv.Itoa(status)+" "+porter.Reason(status)+"|Content-Length: 0||"))
	}
}

func TestP18Lengths(t *testing.T) {
	for _, n := range []int{0, 1, 9, 10, 11, 99, 100, 101, 999, 1000, 12345} {
		checkRendered(t, "GET", api.Answer{Status: 200, Body: xs(n)}, raw("HTTP/1.1 200 OK|Content-Length: "+strconv.Itoa(n)+"||")+xs(n))
	}
	checkRendered(t, "GET", api.Answer{Status: 200, Body: "é\r\n\x00"}, raw("HTTP/1.1 200 OK|Content-Length: 5||é|\x00"))
}

// TestP18AsItStands: Render writes fields as they are; what may not stand in them Reply keeps away.
func TestP18AsItStands(t *testing.T) {
	a := api.Answer{Status: 200, Fields: fields("", "", "a b", " c ", "Content-Length", "9", "X", "\xff\r\ny")}
	checkRendered(t, "GET", a, raw("HTTP/1.1 200 OK|: |a b:  c |Content-Length: 9|X: \xff|y|Content-Length: 0||"))
}
