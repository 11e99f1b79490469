package porter_test

import (
	"fmt"
	"math"
	"reflect"
	"slices"
	"strings"
	"testing"

	"porter/api"
	"porter/porter"
)

var host = api.Field{Name: "Host", Value: "a"}

func get(fields ...api.Field) api.Request {
	return api.Request{Method: "GET", Target: "/", Fields: fields}
}

func checkPrinted(t *testing.T, q api.Request, how int, sizes []int, want string) {
	t.Helper()
	if s, e := porter.Print(q, how, sizes); e != api.OK || s != want {
		t.Errorf("Print(%.80q, %d, %v) = %q, %d, want %q", q, how, sizes, s, e, want)
	}
}

func checkNotPrinted(t *testing.T, q api.Request, how int, sizes []int) {
	t.Helper()
	if s, e := porter.Print(q, how, sizes); e != api.ErrArg || s != "" {
		t.Errorf("Print(%.80q, %d, %v) = %q, %d, want ErrArg", q, how, sizes, s, e)
	}
}

func TestP7Print(t *testing.T) {
	q := api.Request{Method: "POST", Target: "/a?b", Fields: []api.Field{{Name: "X", Value: ""}, {Name: "hOST", Value: "a\t\xff b"}, {Name: "X", Value: "y"}}, Body: "abc0123456789"}
	const head = "POST /a?b HTTP/1.1|X: |hOST: a\t\xff b|X: y|"
	checkPrinted(t, q, 0, nil, raw(head+"Content-Length: 13||abc0123456789"))
	checkPrinted(t, q, 0, []int{}, raw(head+"Content-Length: 13||abc0123456789"))
	checkPrinted(t, q, 1, []int{3, 10}, raw(head+"Transfer-Encoding: chunked||3|abc|a|0123456789|0||"))
	checkPrinted(t, q, 1, []int{13}, raw(head+"Transfer-Encoding: chunked||d|abc0123456789|0||"))
	q.Body = ""
	checkPrinted(t, q, 0, nil, raw(head+"Content-Length: 0||"))
	checkPrinted(t, q, 1, nil, raw(head+"Transfer-Encoding: chunked||0||"))
	checkPrinted(t, q, 1, []int{}, raw(head+"Transfer-Encoding: chunked||0||"))
	q.Body = xs(1000)
	checkPrinted(t, q, 0, nil, raw(head+"Content-Length: 1000||")+q.Body)
	checkPrinted(t, q, 1, []int{16, 984}, raw(head+"Transfer-Encoding: chunked||10|"+xs(16)+"|3d8|"+xs(984)+"|0||"))
}

func TestP7WrongHowAndSizes(t *testing.T) {
	q := get(host)
	q.Body = "abc"
	for _, how := range []int{-1, 2, math.MinInt, math.MaxInt} {
		checkNotPrinted(t, q, how, nil)
		checkNotPrinted(t, q, how, []int{3})
	}
	checkNotPrinted(t, q, 0, []int{3})
	checkNotPrinted(t, q, 0, []int{0})
	for _, sizes := range [][]int{
		nil, {}, {2}, {4}, {1, 1}, {1, 3}, {3, 1}, {0, 3}, {3, 0}, {4, -1}, {-1, 4}, {math.MinInt}, {math.MaxInt}, {1, math.MaxInt, math.MaxInt, 4},
		{math.MaxInt, math.MaxInt, 5}, {1 << 62, 1 << 62, 1 << 62, 1<<62 + 3},
	} {
		checkNotPrinted(t, q, 1, sizes)
	}
	checkNotPrinted(t, get(host), 0, []int{0})
	checkNotPrinted(t, get(host), 1, []int{0})
	checkNotPrinted(t, get(host), 1, []int{1, -1})
}

func TestP7WrongRequests(t *testing.T) {
	wrong := []api.Request{
		{}, get(), get(host, host), get(host, api.Field{Name: "hOST", Value: "b"}), get(api.Field{Name: "Hosts", Value: "a"}),
		{Method: "", Target: "/", Fields: []api.Field{host}}, {Method: "G T", Target: "/", Fields: []api.Field{host}},
		{Method: "ABCDEFGHIJKLMNOPQ", Target: "/", Fields: []api.Field{host}}, {Method: "GET", Target: "", Fields: []api.Field{host}},
		{Method: "GET", Target: "a", Fields: []api.Field{host}}, {Method: "GET", Target: "/%4", Fields: []api.Field{host}},
		{Method: "GET", Target: "/#", Fields: []api.Field{host}}, {Method: "GET", Target: "/ ", Fields: []api.Field{host}},
		{Method: "GET", Target: "/?\r\n", Fields: []api.Field{host}}, {Method: "GET", Target: "/\x7f", Fields: []api.Field{host}},
	}
	for _, name := range []string{"", "a b", "a:", "é", "X\r\n", "Content-Length", "cONTENT-lENGTH", "Transfer-Encoding", "transfer-encoding"} {
		wrong = append(wrong, get(host, api.Field{Name: name, Value: "0"}), get(api.Field{Name: name, Value: "0"}, host))
	}
	for _, value := range []string{" ", "\t", " y", "y ", "\ty", "y\t", "a\r\nb", "a\nb", "\x00", "\x1f", "\x7f"} {
		wrong = append(wrong, get(host, api.Field{Name: "X", Value: value}), get(api.Field{Name: "Host", Value: value}))
	}
	for _, q := range wrong {
		checkNotPrinted(t, q, 0, nil)
		checkNotPrinted(t, q, 1, nil)
	}
	checkPrinted(t, api.Request{Method: "ABCDEFGHIJKLMNOP", Target: "/?%", Fields: []api.Field{{Name: "HOST", Value: ""}}}, 0, nil, raw("ABCDEFGHIJKLMNOP /?% HTTP/1.1|HOST: |Content-Length: 0||"))
}

func TestP7WhatIsPrintedIsReadBack(t *testing.T) {
	for n := range api.MaxBody + 1 {
		q := get(host, api.Field{Name: "X", Value: "y z"})
		q.Body = strings.Repeat("a\r\n", 67)[:n]
		for _, step := range []int{0, 1, 2, 9, 10, 15, 16, 17, 200} {
			how, told := 0, api.Field{Name: "Content-Length", Value: fmt.Sprint(n)}
			var sizes []int
			if step > 0 {
				how, told = 1, api.Field{Name: "Transfer-Encoding", Value: "chunked"}
				for left := n; left > 0; left -= step {
					sizes = append(sizes, min(step, left))
				}
			}
			s, e := porter.Print(q, how, sizes)
			if e != api.OK {
				t.Fatalf("Print(.., %d, %v) = %d", how, sizes, e)
			}
			back := q
			back.Fields = append(slices.Clone(q.Fields), told)
			checkFramed(t, api.Limits{Head: 100, Body: n}, s, 0, back)
		}
	}
}

func TestP2PrintWritesIntoNothing(t *testing.T) {
	fields := []api.Field{host, {Name: "X", Value: "y"}, {Name: "spare", Value: "room"}}
	sizes := []int{1, 2, 77}
	q := api.Request{Method: "GET", Target: "/", Fields: fields[:2], Body: "abc"}
	for how := range 2 {
		porter.Print(q, how, sizes[:2*how])
	}
	want := []api.Field{host, {Name: "X", Value: "y"}, {Name: "spare", Value: "room"}}
	if !reflect.DeepEqual(fields, want) || !slices.Equal(sizes, []int{1, 2, 77}) {
		t.Errorf("Print left %q and %v", fields, sizes)
	}
}
