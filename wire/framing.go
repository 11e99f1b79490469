package wire

import (
	"porter/api"
	"porter/words"
)

const chunkedCoding = "chunked"

// framing says how a request's body is told: in chunks, or as so many bytes.
type framing struct {
	chunked bool
	length  int
}

// framingOf tells by a head's fields how the body is told, if they may stand together.
func framingOf(fields []api.Field, most int) (framing, api.Errno) {
	lengths := words.Values(fields, words.LengthName)
	codings := words.Values(fields, words.CodingName)
	switch {
	case len(words.Values(fields, words.HostName)) != 1:
		return framing{}, api.ErrBad
	case len(codings) > 0 && len(lengths) > 0:
		return framing{}, api.ErrBad
	}
	length, errno := oneNumber(lengths)
	switch {
	case errno != api.OK:
		return framing{}, errno
	case len(codings) > 1 || len(codings) == 1 && !words.Alike(codings[0], chunkedCoding):
		return framing{}, api.ErrCoding
	case length > most:
		return framing{}, api.ErrLarge
	}
	return framing{chunked: len(codings) == 1, length: length}, api.OK
}

// oneNumber tells the number that all the values tell; nought, if there are none.
func oneNumber(values []string) (int, api.Errno) {
	one := 0
	for i, v := range values {
		n, errno := words.Decimal(v)
		if errno != api.OK || i > 0 && n != one {
			return 0, api.ErrBad
		}
		one = n
	}
	return one, api.OK
}
