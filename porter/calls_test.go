package porter_test

import (
	"math"
	"reflect"
	"strings"
	"testing"
	"unsafe"

	"porter/api"
	"porter/porter"
)

// longTexts are long ones of every byte, alone and behind a right beginning.
func longTexts() []string {
	texts := []string{"", raw(start), raw(chunked), raw(lumps)}
	for c := range 256 {
		long := strings.Repeat(oneByte(c), 20000)
		texts = append(texts, long, raw(start)+long, raw(chunked)+long, "/"+long)
	}
	return append(texts, strings.Repeat("%41", 1000000), strings.Repeat(raw("X: y|"), 100000), strings.Repeat(raw("1|x|"), 100000))
}

func TestP1EveryCallEndsWithoutPanicAtAllTexts(t *testing.T) {
	for _, s := range longTexts() {
		porter.IsToken(s)
		if n, e := porter.Decimal(s); e != api.OK && n != 0 {
			t.Errorf("P1: Decimal(%.20q) = %d, %d", s, n, e)
		}
		if n, e := porter.Hex(s); e != api.OK && n != 0 {
			t.Errorf("P1: Hex(%.20q) = %d, %d", s, n, e)
		}
		if u, e := porter.Unescape(s); e != api.OK && u != "" {
			t.Errorf("P1: Unescape(%.20q) = %.20q, %d", s, u, e)
		}
		for _, l := range []api.Limits{wide, {Head: 32}, {Head: 100, Body: 10}} {
			if q, n, e := porter.Frame(l, s); e != api.OK && (n != 0 || !reflect.DeepEqual(q, api.Request{})) {
				t.Errorf("P1: Frame(%v, %.20q) = %.20q, %d, %d", l, s, q, n, e)
			}
		}
		for _, q := range []api.Request{{Method: s, Target: s, Fields: []api.Field{{Name: s, Value: s}}, Body: s}, {Method: "GET", Target: "/", Fields: []api.Field{host}, Body: s}, get(host, api.Field{Name: "X", Value: s}), {Method: "GET", Target: s, Fields: []api.Field{host}}} {
			if p, e := porter.Print(q, 0, nil); e != api.OK && p != "" {
				t.Errorf("P1: Print(%.20q) = %.20q, %d", q, p, e)
			}
		}
	}
}

func TestP1PatternsAndTablesEndWithoutPanicAtAllTexts(t *testing.T) {
	x := porter.NewTable()
	checkAdd(t, x, "GET", "/:p/*r", 0, api.OK)
	texts := append(longTexts(), strings.Repeat("/", 1000000), strings.Repeat("/a", 1000000), strings.Repeat("/%2f", 1000000))
	for _, s := range texts {
		for _, pair := range [][2]string{{s, s}, {s, "/a"}, {"/:p", s}, {"/*r", s}, {strings.Repeat("/", 64), s}} {
			if l, e := porter.Match(pair[0], pair[1]); e != api.OK && l != nil {
				t.Errorf("P1: Match(%.20q, %.20q) = %.20q, %d", pair[0], pair[1], l, e)
			}
			if both, e := porter.Overlap(pair[0], pair[1]); e != api.OK && both {
				t.Errorf("P1: Overlap(%.20q, %.20q) = %v, %d", pair[0], pair[1], both, e)
			}
			if n, e := x.Add(pair[0], pair[1]); n != 0 || e == api.OK {
				t.Errorf("P1: Add(%.20q, %.20q) = %d, %d", pair[0], pair[1], n, e)
			}
		}
		if n, l, e := x.Find("GET", s); n != 0 || e != api.OK && l != nil {
			t.Errorf("P1: Find(GET, %.20q) = %d, %.20q, %d", s, n, l, e)
		}
		if n, l, e := x.Find(s, s); n != 0 || l != nil || e == api.OK {
			t.Errorf("P1: Find(%.20q, the same) = %d, %.20q, %d", s, n, l, e)
		}
		if l := x.Methods(s); len(l) > 1 {
			t.Errorf("P1: Methods(%.20q) = %.20q", s, l)
		}
	}
}

func TestP1EveryCallEndsWithoutPanicAtAllNumbersAndLists(t *testing.T) {
	numbers := []int{math.MinInt, math.MinInt + 1, -1 << 32, -200, -1, 0, 1, 31, 32, 200, 500, 501, 1 << 32, math.MaxInt - 1, math.MaxInt}
	for _, a := range numbers {
		if porter.Reason(a) == "" {
			t.Errorf("P1: Reason(%d) is empty", a)
		}
		for _, b := range numbers {
			right := a >= 32 && a <= 500 && b >= 0 && b <= 200
			for _, s := range []string{"", "\n", raw(lumps), xs(10000)} {
				if q, n, e := porter.Frame(api.Limits{Head: a, Body: b}, s); right == (e == api.ErrArg) || e != api.OK && (n != 0 || !reflect.DeepEqual(q, api.Request{})) {
					t.Errorf("P1: Frame({%d %d}, %.20q) = %.20q, %d, %d", a, b, s, q, n, e)
				}
			}
			for _, c := range numbers {
				q := get(host)
				q.Body = "x"
				s, e := porter.Print(q, a, []int{b, c})
				if e != api.ErrArg || s != "" {
					t.Errorf("P1: Print(.., %d, {%d %d}) = %q, %d", a, b, c, s, e)
				}
			}
		}
	}
	q := get(append(make([]api.Field, 100000), host)...)
	checkNotPrinted(t, q, 0, nil)
	checkNotPrinted(t, get(host), 1, make([]int, 100000))
}

func TestP2ListsOfFrameAreTheCallers(t *testing.T) {
	s := raw("GET / HTTP/1.1|Host: a|X: 1|X: 2||")
	want := []api.Field{host, {Name: "X", Value: "1"}, {Name: "X", Value: "2"}}
	one, _, _ := porter.Frame(wide, s)
	two, _, _ := porter.Frame(wide, s)
	spoil := one.Fields[:cap(one.Fields)]
	for i := range spoil {
		spoil[i] = api.Field{Name: "spoilt", Value: "spoilt"}
	}
	three, _, _ := porter.Frame(wide, s)
	if !reflect.DeepEqual(two.Fields, want) || !reflect.DeepEqual(three.Fields, want) {
		t.Errorf("what the caller wrote into a list is seen: %q, %q", two.Fields, three.Fields)
	}
}

// shares says whether a text lies in the memory of another.
func shares(part string, whole string) bool {
	if part == "" || whole == "" {
		return false
	}
	from := uintptr(unsafe.Pointer(unsafe.StringData(whole)))
	at := uintptr(unsafe.Pointer(unsafe.StringData(part)))
	return at >= from && at < from+uintptr(len(whole))
}

func TestP2TextsOfFrameAreNotHeldTogether(t *testing.T) {
	for _, s := range []string{raw(lumps), raw("POST /long HTTP/1.1|Host: aaa|Content-Length: 5||abcde")} {
		q, _, e := porter.Frame(wide, s)
		if e != api.OK {
			t.Fatalf("Frame(%q) = %d", s, e)
		}
		texts := []string{q.Method, q.Target, q.Body}
		for _, f := range q.Fields {
			texts = append(texts, f.Name, f.Value)
		}
		for _, text := range texts {
			if shares(text, s) {
				t.Errorf("%q lies in the memory of what was handed in", text)
			}
		}
	}
}
