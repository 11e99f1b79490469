package porter_test

import (
	"reflect"
	"testing"

	"porter/api"
	"porter/porter"
	"porter/words"
)

var seeds = []string{
	raw("GET /hi/you HTTP/1.1|Host: a||"),
	raw("POST /a%41?b HTTP/1.1|Host: a|Content-Length: 3||abcGET "),
	raw(lumps),
	raw("PUT / HTTP/1.0|Host: a||"),
	raw("PUT / HTTP/1.1|Host: a|X: y|host: b||"),
	raw(start + "Transfer-Encoding: gzip||0||"),
	raw(start + "Content-Length: 12|Content-Length: 012||012345678901"),
	raw(chunked + "4|abcd|0000000a|0123456789|0|X: y|Z:||"),
}

// checkStands lays more and more bytes before Frame, and says whether its first answer but ErrMore stands.
func checkStands(t *testing.T, l api.Limits, s string) {
	t.Helper()
	k := 0
	q, n, e := porter.Frame(l, "")
	for ; e == api.ErrMore && k < len(s); k++ {
		q, n, e = porter.Frame(l, s[:k+1])
	}
	if e == api.ErrMore {
		return
	}
	if e == api.OK && n != k {
		t.Fatalf("P8: Frame(%v, %q) has %d bytes", l, s[:k], n)
	}
	for _, more := range []string{"", s[k:], "\n", "\r\n\r\n", "0", "\x00", xs(600)} {
		q2, n2, e2 := porter.Frame(l, s[:k]+more)
		if n2 != n || e2 != e || !reflect.DeepEqual(q2, q) {
			t.Fatalf("P8: Frame(%v, %q) = %q, %d, %d, but with %.20q behind it %q, %d, %d", l, s[:k], q, n, e, more, q2, n2, e2)
		}
	}
	if e == api.OK {
		checkReadBack(t, q)
	}
}

// checkReadBack prints what Frame told, and says whether Frame tells it again.
func checkReadBack(t *testing.T, q api.Request) {
	t.Helper()
	plain := api.Request{Method: q.Method, Target: q.Target, Body: q.Body}
	for _, f := range q.Fields {
		if !words.Alike(f.Name, "Content-Length") && !words.Alike(f.Name, "Transfer-Encoding") {
			plain.Fields = append(plain.Fields, f)
		}
	}
	s, e := porter.Print(plain, 0, nil)
	if e != api.OK {
		t.Fatalf("P7: Print(%q) = %d", plain, e)
	}
	r, n, e := porter.Frame(wide, s)
	if e == api.ErrHead { // the printed head may be longer than the one that came
		return
	}
	if e != api.OK || n != len(s) || r.Method != q.Method || r.Target != q.Target || r.Body != q.Body || !reflect.DeepEqual(r.Fields[:len(r.Fields)-1], plain.Fields) {
		t.Fatalf("P7: Frame(Print(%q)) = %q, %d, %d", plain, r, n, e)
	}
}

func TestP8WhatFrameAnswersStands(t *testing.T) {
	limits := []api.Limits{wide, {Head: 32, Body: 0}, {Head: 60, Body: 13}}
	for _, s := range seeds {
		for _, l := range limits {
			checkStands(t, l, s)
			for i := range s {
				checkStands(t, l, s[:i]+s[i+1:])
				for _, b := range []string{"\r", "\n", " ", "\t", ":", "0", "a", "%", "\x00", "\x7f", "\x80"} {
					checkStands(t, l, s[:i]+b+s[i+1:])
					checkStands(t, l, s[:i]+b+s[i:])
				}
			}
		}
	}
}

func FuzzP8WhatFrameAnswersStands(f *testing.F) {
	for _, s := range seeds {
		f.Add(uint16(468), uint8(200), s)
		f.Add(uint16(28), uint8(13), s)
	}
	f.Fuzz(func(t *testing.T, head uint16, body uint8, s string) {
		checkStands(t, api.Limits{Head: 32 + int(head)%469, Body: int(body) % 201}, s)
	})
}
