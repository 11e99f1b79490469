package site

import (
	"slices"

	"porter/api"
	"porter/words"
)

// gaveUp is what a handler panics with that gives up.
type gaveUp struct{}

// run is a request on its way through the wares to the handler of its route.
type run struct {
	request api.Request
	params  []api.Param
	handler api.Handler
}

// through tells what comes out of these wares, of which the first is outermost.
func (r run) through(wares []api.Ware) api.Answer {
	if len(wares) == 0 {
		return r.handle()
	}
	return r.around(wares[0], func() api.Answer { return r.through(wares[1:]) })
}

func (r run) handle() api.Answer {
	h := r.handler
	switch h.Kind {
	case api.Fixed:
		return api.Answer{Status: h.Status, Body: h.Text}
	case api.Echo:
		return api.Answer{Status: h.Status, Body: r.request.Body}
	case api.Tell:
		return api.Answer{Status: h.Status, Body: r.param(h.Name)}
	case api.Label:
		return api.Answer{Status: h.Status, Fields: []api.Field{{Name: h.Text, Value: r.param(h.Name)}}}
	}
	panic(gaveUp{}) // Break: no other kind is left in a site
}

// param tells what the parameter of this name stands for; nothing, if there is none.
func (r run) param(name string) string {
	for _, p := range r.params {
		if p.Name == name {
			return p.Value
		}
	}
	return ""
}

// around lays a ware around what is inside, which comes to pass if the ware lets it.
func (r run) around(w api.Ware, inside func() api.Answer) api.Answer {
	switch w.Kind {
	case api.Add:
		return withFields(inside(), w.Name, w.Value)
	case api.Guard:
		if !slices.Contains(words.Values(r.request.Fields, w.Name), w.Value) {
			return api.Answer{Status: 403}
		}
	case api.Most:
		if len(r.request.Body) > w.Limit {
			return api.Answer{Status: 413}
		}
	case api.Save:
		return save(inside)
	case api.Copy:
		return withFields(inside(), w.Name, words.Values(r.request.Fields, w.Name)...)
	}
	return inside()
}

func withFields(a api.Answer, name string, values ...string) api.Answer {
	for _, value := range values {
		a.Fields = append(a.Fields, api.Field{Name: name, Value: value})
	}
	return a
}

// save answers for what gives up inside.
func save(inside func() api.Answer) (a api.Answer) {
	defer func() {
		if recover() != nil {
			a = api.Answer{Status: 500, Body: "saved"}
		}
	}()
	return inside()
}
