package porter_test

import (
	"strings"
	"testing"

	"porter/api"
	"porter/porter"
)

const (
	decimals   = "0123456789"
	hexes      = decimals + "abcdefABCDEF"
	letters    = "ABCDEFGHIJKLMNOPQRSTUVWXYZabcdefghijklmnopqrstuvwxyz"
	tokenBytes = letters + decimals + "!#$%&'*+-.^_|~`"
)

// oneByte is the text of one byte; string(c) would be the text of a rune.
func oneByte(c int) string { return string([]byte{byte(c)}) }

func has(set string, c int) bool { return strings.Contains(set, oneByte(c)) }

func TestP3IsTokenOfEveryByte(t *testing.T) {
	for c := range 256 {
		b := oneByte(c)
		for _, s := range []string{b, b + "a", "a" + b, "a" + b + "a"} {
			if got, want := porter.IsToken(s), has(tokenBytes, c); got != want {
				t.Errorf("IsToken(%q) = %v, want %v", s, got, want)
			}
		}
	}
}

func TestP3IsTokenOfTexts(t *testing.T) {
	for s, want := range map[string]bool{
		"": false, "x-Y_9": true, "a b": false, tokenBytes: true, "é": false,
		strings.Repeat("a", 1000): true, strings.Repeat("a", 1000) + " ": false,
	} {
		if got := porter.IsToken(s); got != want {
			t.Errorf("IsToken(%q) = %v, want %v", s, got, want)
		}
	}
}

type numberCase struct {
	s string
	n int
	e api.Errno
}

func checkNumbers(t *testing.T, name string, call func(string) (int, api.Errno), cases []numberCase) {
	t.Helper()
	for _, c := range cases {
		if n, e := call(c.s); n != c.n || e != c.e {
			t.Errorf("%s(%.30q) = %d, %d, want %d, %d", name, c.s, n, e, c.n, c.e)
		}
	}
}

func TestP3Decimal(t *testing.T) {
	checkNumbers(t, "Decimal", porter.Decimal, []numberCase{
		{"0", 0, api.OK}, {"9", 9, api.OK}, {"10", 10, api.OK}, {"007", 7, api.OK},
		{"000000000", 0, api.OK}, {"123456789", 123456789, api.OK}, {"999999999", 999999999, api.OK},
		{"0000000000", 0, api.ErrArg}, {"0000000007", 0, api.ErrArg}, {"1000000000", 0, api.ErrArg},
		{"", 0, api.ErrArg}, {"-1", 0, api.ErrArg}, {"+1", 0, api.ErrArg}, {" 1", 0, api.ErrArg},
		{"1 ", 0, api.ErrArg}, {"1_0", 0, api.ErrArg}, {"0x1", 0, api.ErrArg}, {"12345678a", 0, api.ErrArg},
		{"٣", 0, api.ErrArg}, {"1.0", 0, api.ErrArg},
	})
}

func TestP3Hex(t *testing.T) {
	checkNumbers(t, "Hex", porter.Hex, []numberCase{
		{"0", 0, api.OK}, {"9", 9, api.OK}, {"10", 16, api.OK}, {"fF", 255, api.OK}, {"0a", 10, api.OK},
		{"00000000", 0, api.OK}, {"89abcdef", 0x89abcdef, api.OK}, {"89ABCDEF", 0x89abcdef, api.OK},
		{"ffffffff", 4294967295, api.OK}, {"000000000", 0, api.ErrArg}, {"100000000", 0, api.ErrArg},
		{"", 0, api.ErrArg}, {"-1", 0, api.ErrArg}, {"+1", 0, api.ErrArg}, {"0x1", 0, api.ErrArg},
		{"1 ", 0, api.ErrArg}, {"1_0", 0, api.ErrArg}, {"fffffffg", 0, api.ErrArg},
	})
}

func TestP3NumbersOfEveryByte(t *testing.T) {
	for c := range 256 {
		for _, s := range []string{oneByte(c), "1" + oneByte(c), oneByte(c) + "1"} {
			if n, e := porter.Decimal(s); (e == api.OK) != has(decimals, c) || e != api.OK && (e != api.ErrArg || n != 0) {
				t.Errorf("Decimal(%q) = %d, %d", s, n, e)
			}
			if n, e := porter.Hex(s); (e == api.OK) != has(hexes, c) || e != api.OK && (e != api.ErrArg || n != 0) {
				t.Errorf("Hex(%q) = %d, %d", s, n, e)
			}
		}
	}
}

func TestP3Unescape(t *testing.T) {
	for _, c := range []struct {
		s, want string
		e       api.Errno
	}{
		{"", "", api.OK}, {"a", "a", api.OK}, {"a%41%2F", "aA/", api.OK}, {"%2f%2F", "//", api.OK},
		{"%2541", "%41", api.OK}, {"%25%34%31", "%41", api.OK}, {"%00%ff\x00\xff", "\x00\xff\x00\xff", api.OK},
		{"+?# ", "+?# ", api.OK}, {"%414", "A4", api.OK},
		{"%", "", api.ErrBad}, {"%4", "", api.ErrBad}, {"a%", "", api.ErrBad}, {"ab%4", "", api.ErrBad},
		{"%%41", "", api.ErrBad}, {"%4%41", "", api.ErrBad}, {"%41%", "", api.ErrBad}, {"%+1", "", api.ErrBad},
		{"% 1", "", api.ErrBad}, {"%0x41", "", api.ErrBad}, {"a%zz", "", api.ErrBad},
	} {
		if s, e := porter.Unescape(c.s); s != c.want || e != c.e {
			t.Errorf("Unescape(%q) = %q, %d, want %q, %d", c.s, s, e, c.want, c.e)
		}
	}
}

func TestP3UnescapeOfEveryPair(t *testing.T) {
	for a := range 256 {
		for b := range 256 {
			want, right := "", api.ErrBad
			if has(hexes, a) && has(hexes, b) {
				n, _ := porter.Hex(oneByte(a) + oneByte(b))
				want, right = "<"+oneByte(n)+">", api.OK
			}
			s := "<%" + oneByte(a) + oneByte(b) + ">"
			if got, e := porter.Unescape(s); got != want || e != right {
				t.Fatalf("Unescape(%q) = %q, %d, want %q, %d", s, got, e, want, right)
			}
		}
	}
}

func TestP4Reason(t *testing.T) {
	known := map[int]string{
		200: "OK", 301: "Moved Permanently", 308: "Permanent Redirect", 400: "Bad Request", 403: "Forbidden",
		404: "Not Found", 405: "Method Not Allowed", 413: "Content Too Large",
		431: "Request Header Fields Too Large", 500: "Internal Server Error", 501: "Not Implemented",
		505: "HTTP Version Not Supported",
	}
	for n := -1000; n <= 1000; n++ {
		want, found := known[n]
		if !found {
			want = "Status"
		}
		if got := porter.Reason(n); got != want {
			t.Errorf("Reason(%d) = %q, want %q", n, got, want)
		}
	}
}
