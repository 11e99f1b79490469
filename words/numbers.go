package words

import (
	"strings"

	"porter/api"
)

// noDigit is above every digit of every base that is read here.
const noDigit = 16

// Decimal tells the number that one to MaxDigits decimal digits are.
func Decimal(s string) (int, api.Errno) { return number(s, 10, api.MaxDigits) }

// Hex tells the number that one to MaxHex hexadecimal digits are.
func Hex(s string) (int, api.Errno) { return number(s, 16, api.MaxHex) }

func number(s string, base int, most int) (int, api.Errno) {
	if len(s) < 1 || len(s) > most {
		return 0, api.ErrArg
	}
	n := 0
	for i := range len(s) {
		d := digit(s[i])
		if d >= base {
			return 0, api.ErrArg
		}
		n = n*base + d
	}
	return n, api.OK
}

func digit(c byte) int {
	switch {
	case isDigit(c):
		return int(c - '0')
	case c >= 'a' && c <= 'f':
		return int(c-'a') + 10
	case c >= 'A' && c <= 'F':
		return int(c-'A') + 10
	}
	return noDigit
}

// Unescape tells a text with each % and its two digits turned into a byte.
func Unescape(s string) (string, api.Errno) {
	var out strings.Builder
	for i := 0; i < len(s); i++ {
		if s[i] != '%' {
			out.WriteByte(s[i])
			continue
		}
		if len(s)-i < 3 {
			return "", api.ErrBad
		}
		n, errno := Hex(s[i+1 : i+3])
		if errno != api.OK {
			return "", api.ErrBad
		}
		out.WriteByte(byte(n))
		i += 2 // the digits are used up: a % among them would not begin anew
	}
	return out.String(), api.OK
}
