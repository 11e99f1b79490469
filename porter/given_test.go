package porter_test

import (
	"math"
	"reflect"
	"slices"
	"strings"
	"testing"

	"porter/api"
	"porter/porter"
)

// checkAllCalls says whether the calls on configurations agree, and tell nothing beside an error.
func checkAllCalls(t *testing.T, c api.Config, q api.Request) {
	t.Helper()
	number, e := porter.Check(c)
	if number < 0 || e == api.OK && number != 0 {
		t.Errorf("P1: Check(%s) = %d, %d", brief(c), number, e)
	}
	f, dispatched := porter.Dispatch(c, q.Method, q.Target)
	a, replied := porter.Reply(c, q)
	if e != api.OK && (dispatched != e || replied != e) || dispatched != replied {
		t.Errorf("P1: Check, Dispatch and Reply of %s and %s: errors %d, %d, %d", brief(c), brief(q), e, dispatched, replied)
	}
	if dispatched != api.OK && (!reflect.DeepEqual(f, api.Found{}) || !reflect.DeepEqual(a, api.Answer{})) {
		t.Errorf("P1: beside an error %s and %s", brief(f), brief(a))
	}
	if s := porter.Render(q.Method, a); !strings.HasPrefix(s, "HTTP/1.1 ") {
		t.Errorf("P1: Render(%.20q, %s) = %.80q", q.Method, brief(a), s)
	}
}

func TestP1ConfigurationsEndWithoutPanicAtAllTexts(t *testing.T) {
	for _, s := range longTexts() {
		for _, q := range []api.Request{{Method: s, Target: s, Fields: fields(s, s), Body: s}, {Method: "PUT", Target: "/label/" + s, Fields: fields("Connection", s, s, "close"), Body: s}, {Method: "GET", Target: "/hi/you?" + s, Fields: fields("X", s)}} {
			checkAllCalls(t, site(add("1"), doubly), q)
			porter.Render(s, api.Answer{Fields: q.Fields, Body: s})
		}
		for _, c := range []api.Config{withRoutes(route(s, s, 0, s, s)), withRoutes(route("GET", s, 0, s, s)), withRoutes(route("GET", "/", api.Label, s, s)), withRoutes(route("GET", "/", api.Tell, "", s)), withWares(api.Ware{Name: s, Value: s}), withWares(api.Ware{Kind: api.Guard, Name: "X", Value: s})} {
			checkAllCalls(t, c, get())
		}
	}
}

func TestP1ConfigurationsEndWithoutPanicAtAllNumbersAndLists(t *testing.T) {
	numbers := []int{math.MinInt, -1 << 32, -1, 0, 1, 2, 3, 4, 5, 31, 32, 200, 500, 599, 600, 1 << 32, math.MaxInt}
	for _, a := range numbers {
		for _, b := range numbers {
			checkAllCalls(t, api.Config{Limits: api.Limits{Head: a, Body: b}}, get())
			checkAllCalls(t, withRoutes(api.Route{Method: "GET", Pattern: "/", Handler: api.Handler{Kind: a, Status: b, Text: "X"}}), get())
			checkAllCalls(t, api.Config{Limits: some, Routes: manyRoutes(3), Wares: []api.Ware{{Kind: a, Name: "X", Limit: b}}}, ask("GET", "/1"))
			porter.Render("GET", api.Answer{Status: a})
		}
	}
	long := make([]api.Field, 100000)
	q := api.Request{Method: "GET", Target: "/hi/you", Fields: long}
	checkAllCalls(t, site(), q)
	checkAllCalls(t, site(doubly, guard), q)
	checkAllCalls(t, api.Config{Routes: make([]api.Route, 100000), Wares: make([]api.Ware, 100000)}, q)
	checkAllCalls(t, api.Config{Limits: some, Routes: make([]api.Route, 100000), Wares: make([]api.Ware, 100000)}, q)
	checkAllCalls(t, api.Config{}, api.Request{})
	porter.Render("GET", api.Answer{Fields: long})
}

// roomy is a list with room behind it, which is filled with something.
func roomy[T any](list []T, filling T) []T {
	room := slices.Clone(list)
	for range 8 {
		room = append(room, filling)
	}
	return room[:len(list)]
}

// spoil writes over a list and over the room behind it, as a caller may.
func spoil[T any](list []T, filling T) {
	for i := range list[:cap(list)] {
		list[:cap(list)][i] = filling
	}
}

// given is a configuration and a request with room behind their lists.
func given() (api.Config, api.Request) {
	c := site(add("1"), doubly, save)
	c.Routes = roomy(c.Routes, route("POST", "/*r", api.Fixed, "", ""))
	c.Wares = roomy(c.Wares, add("room"))
	q := ask("PUT", "/label/a/b", "X", "1", "Y", "2", "X", "3")
	q.Fields = roomy(q.Fields, api.Field{Name: "X", Value: "room"})
	return c, q
}

// withRoom tells all that stands in the lists of a configuration and a request, their room too.
func withRoom(c api.Config, q api.Request) (api.Config, api.Request) {
	c.Routes = slices.Clone(c.Routes[:cap(c.Routes)])
	c.Wares = slices.Clone(c.Wares[:cap(c.Wares)])
	q.Fields = slices.Clone(q.Fields[:cap(q.Fields)])
	return c, q
}

var labelled = api.Answer{Status: 200, Fields: fields("X-It", "a/b", "X", "1", "X", "3", "B", "1")}

func TestP2ConfigurationsAndRequestsAreNotWrittenInto(t *testing.T) {
	c, q := given()
	wantC, wantQ := withRoom(c, q)
	for _, target := range []string{"/label/a/b", "/label", "/up", "/hi/you", "/x", "x"} {
		for _, method := range []string{"GET", "HEAD", "PUT", "POST", ""} {
			q.Method, q.Target = method, target
			checkAllCalls(t, c, q)
		}
	}
	q.Method, q.Target = wantQ.Method, wantQ.Target
	if gotC, gotQ := withRoom(c, q); !reflect.DeepEqual(gotC, wantC) || !reflect.DeepEqual(gotQ, wantQ) {
		t.Errorf("P2: what was handed in is now %s, %s", brief(gotC), brief(gotQ))
	}
	a := labelled
	a.Fields = roomy(labelled.Fields, api.Field{Name: "room"})
	porter.Render("GET", a)
	if !reflect.DeepEqual(a.Fields, labelled.Fields) || a.Fields[:cap(a.Fields)][len(a.Fields)].Name != "room" {
		t.Errorf("P2: what was handed to Render is now %s", brief(a))
	}
}

func TestP2ListsOfDispatchAndReplyAreTheCallers(t *testing.T) {
	c, q := given()
	kept, _ := porter.Reply(c, q)
	first, _ := porter.Reply(c, q)
	spoil(first.Fields, api.Field{Name: "spoilt", Value: "spoilt"})
	found, _ := porter.Dispatch(c, q.Method, q.Target)
	spoil(found.Params, api.Param{Name: "spoilt", Value: "spoilt"})
	checkReply(t, c, q, labelled)
	checkFound(t, c, q.Method, q.Target, leads(2, "x", "a/b"))
	spoil(c.Routes, api.Route{})
	spoil(c.Wares, api.Ware{})
	spoil(q.Fields, api.Field{})
	if !sameAnswer(kept, labelled) {
		t.Errorf("P2: what the caller wrote into lists is seen: %s", brief(kept))
	}
}

// textsOf tells all texts of a configuration and a request.
func textsOf(c api.Config, q api.Request) []string {
	texts := []string{q.Method, q.Target, q.Body}
	for _, f := range q.Fields {
		texts = append(texts, f.Name, f.Value)
	}
	for _, r := range c.Routes {
		texts = append(texts, r.Method, r.Pattern, r.Handler.Text, r.Handler.Name)
	}
	for _, w := range c.Wares {
		texts = append(texts, w.Name, w.Value)
	}
	return texts
}

// TestP2TextsOfAnswersAreNew asks for all that an answer can be made of.
func TestP2TextsOfAnswersAreNew(t *testing.T) {
	c, q := given()
	q.Body = strings.Clone("the body")
	c.Routes = append(c.Routes, route("POST", "/echo", api.Echo, "", ""), route("POST", "/text", api.Fixed, strings.Clone("a text"), ""), route("ONE", "/one", 0, "", ""))
	for _, way := range []string{"PUT /label/a", "PUT /label", "PUT /label?x", "GET /hi/a/", "GET /hi/you", "POST /echo", "POST /text", "GET /one", "GET /up"} {
		method, target, _ := strings.Cut(way, " ")
		q.Method, q.Target = strings.Clone(method), strings.Clone(target)
		f, _ := porter.Dispatch(c, q.Method, q.Target)
		a, _ := porter.Reply(c, q)
		got := []string{f.Allow, f.Location, a.Body}
		for _, p := range f.Params {
			got = append(got, p.Name, p.Value)
		}
		for _, field := range a.Fields {
			got = append(got, field.Name, field.Value)
		}
		for _, text := range got {
			for _, own := range textsOf(c, q) {
				if shares(text, own) {
					t.Errorf("P2: %s: %q lies in the memory of what was handed in", way, text)
				}
			}
		}
	}
}
