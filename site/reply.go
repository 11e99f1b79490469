package site

import (
	"slices"
	"strings"

	"porter/api"
	"porter/words"
)

// enders are the bytes that may not stand in a field's value, lest it end its line.
const enders = "\r\n\x00"

// Reply tells the answer to a request. What gives up with no Save around it is caught here.
func (s *Site) Reply(q api.Request) (a api.Answer, errno api.Errno) {
	defer func() {
		if recover() != nil {
			a, errno = api.Answer{Status: 500, Close: true}, api.OK
		}
	}()
	found, errno := s.Dispatch(q.Method, q.Target)
	if errno != api.OK {
		return api.Answer{}, errno
	}
	a = s.answer(q, found)
	if slices.ContainsFunc(a.Fields, endsLine) {
		a = api.Answer{Status: 500}
	}
	a.Close = asksToClose(q)
	return own(a), api.OK
}

func (s *Site) answer(q api.Request, found api.Found) api.Answer {
	switch found.Status {
	case 200:
		r := run{q, found.Params, s.handlers[found.Route]}
		return r.through(s.wares)
	case 301, 308:
		return api.Answer{Status: found.Status, Fields: []api.Field{{Name: "Location", Value: found.Location}}}
	case 405:
		return api.Answer{Status: found.Status, Fields: []api.Field{{Name: "Allow", Value: found.Allow}}}
	}
	return api.Answer{Status: found.Status}
}

func endsLine(f api.Field) bool { return strings.ContainsAny(f.Value, enders) }

func asksToClose(q api.Request) bool {
	return slices.ContainsFunc(words.Values(q.Fields, words.ConnectionName), func(value string) bool {
		return words.Alike(value, words.CloseValue)
	})
}

// own gives an answer texts in memory of its own: they come from the request and the configuration.
func own(a api.Answer) api.Answer {
	for i, f := range a.Fields {
		a.Fields[i] = words.CloneField(f)
	}
	a.Body = strings.Clone(a.Body)
	return a
}
