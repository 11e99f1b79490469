// Package wire turns bytes into requests, and requests and answers into bytes.
package wire

import (
	"strings"

	"porter/api"
	"porter/words"
)

// maxSizeLine is the longest size line: the digits, CR and LF.
const maxSizeLine = api.MaxHex + 2

// version is the one that is spoken here.
const version = "HTTP/1.1"

// reader walks along some bytes, of which the first at are read.
type reader struct {
	limits api.Limits
	text   string
	at     int
}

// RightLimits tells whether requests can be read under these limits.
func RightLimits(l api.Limits) bool {
	return l.Head >= api.MinHead && l.Head <= api.MaxHead && l.Body >= 0 && l.Body <= api.MaxBody
}

// Frame tells the request with which s begins, and how many bytes it has.
func Frame(l api.Limits, s string) (api.Request, int, api.Errno) {
	if !RightLimits(l) {
		return api.Request{}, 0, api.ErrArg
	}
	r := reader{limits: l, text: s}
	q, errno := r.request()
	if errno != api.OK {
		return api.Request{}, 0, errno
	}
	return q, r.at, api.OK
}

func (r *reader) request() (api.Request, api.Errno) {
	q, errno := r.head()
	if errno != api.OK {
		return api.Request{}, errno
	}
	how, errno := framingOf(q.Fields, r.limits.Body)
	if errno != api.OK {
		return api.Request{}, errno
	}
	if how.chunked {
		q.Body, errno = r.chunks()
	} else {
		q.Body, errno = r.bytes(how.length)
	}
	return q, errno
}

// line reads a line whose LF must stand ahead of end. Where it does not, too few bytes may be the
// reason; if all up to end are there, the answer is long.
func (r *reader) line(end int, long api.Errno) (string, api.Errno) {
	near := r.text[r.at:min(end, len(r.text))]
	n := strings.IndexByte(near, '\n')
	switch {
	case n < 0 && len(r.text) < end:
		return "", api.ErrMore
	case n < 0:
		return "", long
	}
	line, found := strings.CutSuffix(near[:n], "\r")
	if !found {
		return "", api.ErrBad
	}
	r.at += n + 1
	return line, api.OK
}

// head reads the lines up to the empty one; what they say together is not looked at yet.
func (r *reader) head() (api.Request, api.Errno) {
	end := r.at + r.limits.Head
	var q api.Request
lines:
	for number := 0; ; number++ {
		line, errno := r.line(end, api.ErrHead)
		switch {
		case errno != api.OK:
			return api.Request{}, errno
		case number == 0:
			q.Method, q.Target, errno = firstLine(line)
			if errno != api.OK {
				return api.Request{}, errno
			}
			continue lines
		case line == "":
			break lines
		}
		field, right := words.ReadField(line)
		if !right {
			return api.Request{}, api.ErrBad
		}
		q.Fields = append(q.Fields, words.CloneField(field)) // a request must not hold on to all the bytes that it came in
	}
	return q, api.OK
}

func firstLine(line string) (string, string, api.Errno) {
	parts := strings.Split(line, " ")
	switch {
	case len(parts) != 3:
		return "", "", api.ErrBad
	case !words.IsMethod(parts[0]) || !words.IsTarget(parts[1]) || !words.IsVersion(parts[2]):
		return "", "", api.ErrBad
	case parts[2] != version:
		return "", "", api.ErrVersion
	}
	return strings.Clone(parts[0]), strings.Clone(parts[1]), api.OK
}

// bytes reads the next n bytes.
func (r *reader) bytes(n int) (string, api.Errno) {
	if len(r.text)-r.at < n {
		return "", api.ErrMore
	}
	r.at += n
	return strings.Clone(r.text[r.at-n : r.at]), api.OK
}

// chunks reads a chunked body and the lines behind it, which are thrown away.
func (r *reader) chunks() (string, api.Errno) {
	var body strings.Builder
chunks:
	for {
		size, errno := r.size()
		if errno != api.OK {
			return "", errno
		}
		if size > 0 {
			data, errno := r.chunk(size, r.limits.Body-body.Len())
			if errno != api.OK {
				return "", errno
			}
			body.WriteString(data)
			continue chunks
		}
		end := r.at + r.limits.Head
	lines:
		for {
			line, errno := r.line(end, api.ErrHead)
			switch {
			case errno != api.OK:
				return "", errno
			case line == "":
				break chunks
			}
			if _, right := words.ReadField(line); right {
				continue lines
			}
			return "", api.ErrBad
		}
	}
	return body.String(), api.OK
}

// size reads the line with which a chunk begins.
func (r *reader) size() (int, api.Errno) {
	line, errno := r.line(r.at+maxSizeLine, api.ErrBad)
	if errno != api.OK {
		return 0, errno
	}
	size, errno := words.Hex(line)
	if errno != api.OK {
		return 0, api.ErrBad
	}
	return size, api.OK
}

// chunk reads what stands behind a size line; room is how much of the body may still come.
func (r *reader) chunk(size int, room int) (string, api.Errno) {
	if size > room {
		return "", api.ErrLarge
	}
	data, errno := r.bytes(size + len("\r\n"))
	if errno != api.OK {
		return "", errno
	}
	data, found := strings.CutSuffix(data, "\r\n")
	if !found {
		return "", api.ErrBad
	}
	return data, api.OK
}
