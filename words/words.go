// Package words knows the small forms of which requests and patterns are made: tokens, numbers,
// targets, paths, names, fields.
package words

import (
	"strings"

	"porter/api"
)

const (
	marks      = "!#$%&'*+-.^_|~`" // what a token may have beside letters and digits
	fixedMarks = "-._~"            // what a fixed piece of a pattern may
	blanks     = " \t"
)

func isDigit(c byte) bool { return c >= '0' && c <= '9' }

func isLetter(c byte) bool { return c >= 'A' && c <= 'Z' || c >= 'a' && c <= 'z' }

func isTokenByte(c byte) bool {
	return isLetter(c) || isDigit(c) || strings.IndexByte(marks, c) >= 0
}

func isTargetByte(c byte) bool { return c >= 33 && c <= 126 && c != '#' }

func isFixedByte(c byte) bool {
	return isLetter(c) || isDigit(c) || strings.IndexByte(fixedMarks, c) >= 0
}

func isNameByte(c byte) bool { return c >= 'a' && c <= 'z' || isDigit(c) }

func isValueByte(c byte) bool { return c == '\t' || c >= 32 && c != 127 }

func all(s string, right func(c byte) bool) bool {
	for i := range len(s) {
		if !right(s[i]) {
			return false
		}
	}
	return true
}

// IsToken tells whether a text is a token.
func IsToken(s string) bool { return s != "" && all(s, isTokenByte) }

// IsMethod tells whether a text is a method.
func IsMethod(s string) bool { return len(s) <= api.MaxMethod && IsToken(s) }

// IsTarget tells whether a text is a target.
func IsTarget(s string) bool {
	path, _ := SplitTarget(s)
	return IsPath(path) && all(s, isTargetByte)
}

// SplitTarget tells a target's path, and what stands behind it, from the `?` on.
func SplitTarget(s string) (string, string) {
	path, _, _ := strings.Cut(s, "?")
	return path, s[len(path):]
}

// IsPath tells whether a text is a path.
func IsPath(s string) bool {
	_, errno := Unescape(s)
	return errno == api.OK && strings.HasPrefix(s, "/")
}

// IsFixed tells whether a text may be a fixed piece of a pattern; the empty one may.
func IsFixed(s string) bool { return all(s, isFixedByte) }

// IsName tells whether a text may be the name of a parameter or a rest.
func IsName(s string) bool { return s != "" && all(s, isNameByte) }

// IsVersion tells whether a text has the form of a version, be it ours or not.
func IsVersion(s string) bool {
	digits, found := strings.CutPrefix(s, "HTTP/")
	return found && len(digits) == 3 && isDigit(digits[0]) && digits[1] == '.' && isDigit(digits[2])
}

// IsField tells whether a field has a token as its name, and a field's value.
func IsField(f api.Field) bool {
	return IsToken(f.Name) && all(f.Value, isValueByte) && strings.Trim(f.Value, blanks) == f.Value
}

// ReadField tells the field that a line is, and whether it is one. The field shares the line's memory.
func ReadField(line string) (api.Field, bool) {
	name, rest, found := strings.Cut(line, ":")
	f := api.Field{Name: name, Value: strings.Trim(rest, blanks)}
	if !found || !IsField(f) {
		return api.Field{}, false
	}
	return f, true
}

// CloneField tells a field with texts in memory of their own.
func CloneField(f api.Field) api.Field {
	return api.Field{Name: strings.Clone(f.Name), Value: strings.Clone(f.Value)}
}

// Alike tells whether two texts are the same but for the case of the letters A to Z.
// (strings.EqualFold would go further: to it the Kelvin sign is a k.)
func Alike(a string, b string) bool {
	if len(a) != len(b) {
		return false
	}
	for i := range len(a) {
		if lower(a[i]) != lower(b[i]) {
			return false
		}
	}
	return true
}

func lower(c byte) byte {
	if c >= 'A' && c <= 'Z' {
		return c + ('a' - 'A')
	}
	return c
}

// Values tells the values of all fields that are named alike name, in their order.
func Values(fields []api.Field, name string) []string {
	var values []string
	for _, f := range fields {
		if Alike(f.Name, name) {
			values = append(values, f.Value)
		}
	}
	return values
}
