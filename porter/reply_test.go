package porter_test

import (
	"slices"
	"strconv"
	"testing"

	"porter/api"
	"porter/porter"
)

// fields are the fields that a list of names and values, by turns, tells.
func fields(namesAndValues ...string) []api.Field {
	var list []api.Field
	for _, p := range params(namesAndValues...) {
		list = append(list, api.Field(p))
	}
	return list
}

// ask is a request with such fields.
func ask(method string, target string, namesAndValues ...string) api.Request {
	return api.Request{Method: method, Target: target, Fields: fields(namesAndValues...)}
}

func sameAnswer(a api.Answer, b api.Answer) bool {
	return a.Status == b.Status && slices.Equal(a.Fields, b.Fields) && a.Body == b.Body && a.Close == b.Close
}

func checkReply(t *testing.T, c api.Config, q api.Request, want api.Answer) {
	t.Helper()
	if a, e := porter.Reply(c, q); e != api.OK || !sameAnswer(a, want) {
		t.Errorf("Reply(%s, %s) = %s, %d, want %s", brief(c.Wares), brief(q), brief(a), e, brief(want))
	}
}

func checkNoReply(t *testing.T, c api.Config, q api.Request, want api.Errno) {
	t.Helper()
	if a, e := porter.Reply(c, q); e != want || !sameAnswer(a, api.Answer{}) {
		t.Errorf("P15: Reply(.., %s) = %s, %d, want error %d alone", brief(q), brief(a), e, want)
	}
}

func add(value string) api.Ware { return api.Ware{Kind: api.Add, Name: "B", Value: value} }

var (
	save   = api.Ware{Kind: api.Save}
	guard  = api.Ware{Kind: api.Guard, Name: "Key", Value: "k"}
	doubly = api.Ware{Kind: api.Copy, Name: "X"}
)

func TestExamplesOfReply(t *testing.T) {
	checkReply(t, site(), ask("PUT", "/label/a/b"), api.Answer{Status: 200, Fields: fields("X-It", "a/b")})
	checkReply(t, site(), ask("PUT", "/label/a%0d%0aX:%20y"), api.Answer{Status: 500})
	checkReply(t, site(), ask("GET", "/up"), api.Answer{Status: 500, Close: true})
	c := site(add("1"), save, add("2"))
	checkReply(t, c, ask("GET", "/up"), api.Answer{Status: 500, Fields: fields("B", "1"), Body: "saved"})
	checkReply(t, c, ask("GET", "/hi/you"), api.Answer{Status: 200, Fields: fields("B", "2", "B", "1"), Body: "you"})
}

func TestP15Errors(t *testing.T) {
	for _, method := range wrongMethods {
		checkNoReply(t, site(), ask(method, "/hi/you"), api.ErrBad)
		checkNoReply(t, api.Config{}, ask(method, "/hi/you"), api.ErrArg)
	}
	for _, target := range wrongTargets {
		checkNoReply(t, site(), ask("GET", target, "Connection", "close"), api.ErrBad)
		checkNoReply(t, site(save), ask("GET", target), api.ErrBad)
		checkNoReply(t, withWares(api.Ware{Kind: 9}), ask("GET", target), api.ErrWare)
	}
	checkNoReply(t, withRoutes(manyRoutes(25)...), ask("GET", "/1"), api.ErrFull)
	checkNoReply(t, withRoutes(route("GET", "/1", 9, "", "")), ask("GET", "/1"), api.ErrHandler)
}

// TestP15WithoutARoute: the wares are around handlers alone.
func TestP15WithoutARoute(t *testing.T) {
	for _, c := range []api.Config{site(), site(add("1"), guard, save), site(add("\r\n")), site(api.Ware{Kind: api.Most})} {
		for _, closes := range []bool{false, true} {
			var its []string
			if closes {
				its = []string{"Connection", "close"}
			}
			checkReply(t, c, ask("GET", "/fix?q", its...), api.Answer{Status: 301, Fields: fields("Location", "/fix/?q"), Close: closes})
			checkReply(t, c, ask("HEAD", "/up/", its...), api.Answer{Status: 301, Fields: fields("Location", "/up"), Close: closes})
			checkReply(t, c, ask("PUT", "/label", its...), api.Answer{Status: 308, Fields: fields("Location", "/label/"), Close: closes})
			checkReply(t, c, ask("POST", "/up", its...), api.Answer{Status: 405, Fields: fields("Allow", "GET, HEAD"), Close: closes})
			q := ask("GET", "/x", its...)
			q.Body = "body"
			checkReply(t, c, q, api.Answer{Status: 404, Close: closes})
		}
	}
}

func TestP15Close(t *testing.T) {
	for _, c := range []struct {
		namesAndValues []string
		want           bool
	}{
		{nil, false}, {[]string{"Connection", "close"}, true}, {[]string{"connection", "CLOSE"}, true}, {[]string{"CONNECTION", "cLoSe"}, true},
		{[]string{"Connection", "keep-alive", "X", "y", "Connection", "close"}, true}, {[]string{"Connection", "close", "Connection", "x"}, true},
		{[]string{"Connection", ""}, false}, {[]string{"Connection", "closed"}, false}, {[]string{"Connection", "close "}, false}, {[]string{"Connection", "close, x"}, false},
		{[]string{"Connections", "close"}, false}, {[]string{"Connection ", "close"}, false}, {[]string{"", "close"}, false}, {[]string{"close", "Connection"}, false}, {[]string{"X", "close"}, false},
		{[]string{"Connection", "clo\x73e"}, true}, {[]string{"Connection", "clo\u017fe"}, false},
	} {
		checkReply(t, site(), ask("GET", "/hi/you", c.namesAndValues...), api.Answer{Status: 200, Body: "you", Close: c.want})
		checkReply(t, site(), ask("HEAD", "/fix/", c.namesAndValues...), api.Answer{Status: 200, Close: c.want})
		checkReply(t, site(), ask("GET", "/x", c.namesAndValues...), api.Answer{Status: 404, Close: c.want})
		checkReply(t, site(), ask("PUT", "/label/%0a", c.namesAndValues...), api.Answer{Status: 500, Close: c.want})
		checkReply(t, site(guard), ask("GET", "/hi/you", c.namesAndValues...), api.Answer{Status: 403, Close: c.want})
		checkReply(t, site(save), ask("GET", "/up", c.namesAndValues...), api.Answer{Status: 500, Body: "saved", Close: c.want})
		checkReply(t, site(), ask("GET", "/up", c.namesAndValues...), api.Answer{Status: 500, Close: true})
	}
}

func TestP16Handlers(t *testing.T) {
	q := api.Request{Method: "POST", Target: "/one/a%2Fb/c/%20/?x", Body: "a\r\n\r\n\x00" + xs(1000)}
	for _, status := range []int{200, 204, 301, 404, 599} {
		for _, c := range []struct {
			kind       int
			text, name string
			want       api.Answer
		}{
			{api.Fixed, "text", "p", api.Answer{Body: "text"}}, {api.Fixed, "", "", api.Answer{}}, {api.Fixed, "a\r\n\x00b", "", api.Answer{Body: "a\r\n\x00b"}},
			{api.Echo, "text", "p", api.Answer{Body: q.Body}},
			{api.Tell, "text", "p", api.Answer{Body: "a/b"}}, {api.Tell, "", "rest", api.Answer{Body: "c/ /"}},
			{api.Tell, "", "P", api.Answer{}}, {api.Tell, "", "", api.Answer{}}, {api.Tell, "", ":p", api.Answer{}}, {api.Tell, "", "one", api.Answer{}}, {api.Tell, "", xs(1000), api.Answer{}},
			{api.Label, "X-It", "p", api.Answer{Fields: fields("X-It", "a/b")}}, {api.Label, "x-it", "rest", api.Answer{Fields: fields("x-it", "c/ /")}}, {api.Label, "X", "pp", api.Answer{Fields: fields("X", "")}},
			{api.Break, "text", "p", api.Answer{Close: true}},
		} {
			r := route("POST", "/one/:p/*rest", c.kind, c.text, c.name)
			r.Handler.Status, c.want.Status = status, status
			if c.kind == api.Break {
				c.want.Status = 500
			}
			checkReply(t, withRoutes(route("POST", "/two", 0, "no", ""), r), q, c.want)
		}
	}
}

func TestP16EchoOfAnyBody(t *testing.T) {
	c := withRoutes(route("POST", "/", api.Echo, "", ""))
	for _, body := range []string{"", "a", "\x00\xff", xs(10), xs(11), xs(100000)} {
		checkReply(t, c, api.Request{Method: "POST", Target: "/", Body: body}, api.Answer{Status: 200, Body: body})
	}
}

func TestP16Add(t *testing.T) {
	hi, label := ask("GET", "/hi/you", "B", "of the request"), ask("PUT", "/label/v")
	checkReply(t, site(add("1")), hi, api.Answer{Status: 200, Fields: fields("B", "1"), Body: "you"})
	checkReply(t, site(add("1"), add("2"), add("1"), add("")), hi, api.Answer{Status: 200, Fields: fields("B", "", "B", "1", "B", "2", "B", "1"), Body: "you"})
	checkReply(t, site(add("1")), label, api.Answer{Status: 200, Fields: fields("X-It", "v", "B", "1")})
	checkReply(t, site(add(" \t\x01\x7f\xff")), hi, api.Answer{Status: 200, Fields: fields("B", " \t\x01\x7f\xff"), Body: "you"})
	checkReply(t, site(add("1"), add("2"), add("3"), add("4"), add("5"), add("6")), label, api.Answer{Status: 200, Fields: fields("X-It", "v", "B", "6", "B", "5", "B", "4", "B", "3", "B", "2", "B", "1")})
}

func TestP16Guard(t *testing.T) {
	let, kept := api.Answer{Status: 200, Fields: fields("B", "2", "B", "1"), Body: "you"}, api.Answer{Status: 403, Fields: fields("B", "1")}
	for _, c := range []struct {
		namesAndValues []string
		want           api.Answer
	}{
		{nil, kept}, {[]string{"Key", "k"}, let}, {[]string{"kEY", "k"}, let}, {[]string{"Key", "K"}, kept}, {[]string{"Key", ""}, kept}, {[]string{"Key", "kk"}, kept}, {[]string{"Key", " k"}, kept}, {[]string{"Key", "k\x00"}, kept},
		{[]string{"Key2", "k"}, kept}, {[]string{"Ke", "k"}, kept}, {[]string{"", "k"}, kept}, {[]string{"k", "Key"}, kept}, {[]string{"\u212aey", "k"}, kept},
		{[]string{"Key", "a", "key", "k"}, let}, {[]string{"Key", "k", "key", "a"}, let}, {[]string{"Key", "a", "X", "k"}, kept},
	} {
		checkReply(t, site(add("1"), guard, add("2")), ask("GET", "/hi/you", c.namesAndValues...), c.want)
	}
	empty := site(api.Ware{Kind: api.Guard, Name: "Key"})
	checkReply(t, empty, ask("GET", "/hi/you", "key", ""), api.Answer{Status: 200, Body: "you"})
	checkReply(t, empty, ask("GET", "/hi/you", "key", "k"), api.Answer{Status: 403})
	checkReply(t, empty, ask("GET", "/hi/you"), api.Answer{Status: 403})
	checkReply(t, site(guard), ask("GET", "/up"), api.Answer{Status: 403})
	checkReply(t, site(guard), ask("GET", "/up", "Key", "k"), api.Answer{Status: 500, Close: true})
}

func TestP16Most(t *testing.T) {
	c := withRoutes(route("POST", "/", api.Echo, "", ""), route("GET", "/up", api.Break, "", ""))
	for _, limit := range []int{0, 1, 3, 200, 1000, 1 << 40} {
		c.Wares = []api.Ware{add("1"), {Kind: api.Most, Limit: limit}, add("2")}
		for _, n := range []int{0, 1, 2, 3, 4, 199, 200, 201, 999, 1000, 1001} {
			want := api.Answer{Status: 413, Fields: fields("B", "1")}
			if n <= limit {
				want = api.Answer{Status: 200, Fields: fields("B", "2", "B", "1"), Body: xs(n)}
			}
			checkReply(t, c, api.Request{Method: "POST", Target: "/", Body: xs(n)}, want)
		}
	}
	c.Wares[1].Limit = 3
	checkReply(t, c, api.Request{Method: "GET", Target: "/up", Body: "abcd"}, api.Answer{Status: 413, Fields: fields("B", "1")})
	checkReply(t, c, api.Request{Method: "GET", Target: "/up", Body: "abc"}, api.Answer{Status: 500, Close: true})
}

func TestP16Copy(t *testing.T) {
	q := ask("GET", "/hi/you", "x", "1", "Y", "2", "X", "3", "XX", "4", "X", "", "x", "1", "", "5")
	checkReply(t, site(doubly), q, api.Answer{Status: 200, Fields: fields("X", "1", "X", "3", "X", "", "X", "1"), Body: "you"})
	checkReply(t, site(doubly, add("1")), q, api.Answer{Status: 200, Fields: fields("B", "1", "X", "1", "X", "3", "X", "", "X", "1"), Body: "you"})
	checkReply(t, site(add("1"), api.Ware{Kind: api.Copy, Name: "y", Value: "not asked"}), q, api.Answer{Status: 200, Fields: fields("y", "2", "B", "1"), Body: "you"})
	checkReply(t, site(doubly), ask("GET", "/hi/you", "Y", "2"), api.Answer{Status: 200, Body: "you"})
	checkReply(t, site(doubly, guard), q, api.Answer{Status: 403, Fields: fields("X", "1", "X", "3", "X", "", "X", "1")})
	checkReply(t, site(doubly, save), ask("GET", "/up", "X", "1"), api.Answer{Status: 500, Fields: fields("X", "1"), Body: "saved"})
}

// TestP16SaveAtEachPlace: what is around the Save stays, what is inside is thrown away.
func TestP16SaveAtEachPlace(t *testing.T) {
	for place := range 6 {
		var wares []api.Ware
		want := api.Answer{Status: 500, Body: "saved"}
		for i := range 6 {
			if i == place {
				wares = append(wares, save)
				continue
			}
			wares = append(wares, add(strconv.Itoa(i)))
			if i < place {
				want.Fields = slices.Insert(want.Fields, 0, fields("B", strconv.Itoa(i))...)
			}
		}
		checkReply(t, site(wares...), ask("GET", "/up"), want)
		checkReply(t, site(wares...), ask("HEAD", "/up"), want)
	}
	checkReply(t, site(save, save, save), ask("GET", "/up"), api.Answer{Status: 500, Body: "saved"})
	checkReply(t, site(save, add("1"), save, add("2")), ask("GET", "/up"), api.Answer{Status: 500, Fields: fields("B", "1"), Body: "saved"})
	checkReply(t, site(add("1"), add("2")), ask("GET", "/up"), api.Answer{Status: 500, Close: true})
	checkReply(t, site(add("1"), save), ask("GET", "/hi/saved"), api.Answer{Status: 200, Fields: fields("B", "1"), Body: "saved"})
}

// outward tells by the document's words, from the handler outwards, what comes out of a configuration's
// wares, and whether something gave up that no Save was around.
func outward(wares []api.Ware, q api.Request, a api.Answer, gaveUp bool) (api.Answer, bool) {
	for _, w := range slices.Backward(wares) {
		var those []api.Field
		passed := false
		for _, f := range q.Fields {
			if f.Name == w.Name {
				those = append(those, f)
				passed = passed || f.Value == w.Value
			}
		}
		switch {
		case w.Kind == api.Add:
			a.Fields = append(a.Fields, api.Field{Name: w.Name, Value: w.Value})
		case w.Kind == api.Copy:
			a.Fields = append(a.Fields, those...)
		case w.Kind == api.Guard && !passed:
			a, gaveUp = api.Answer{Status: 403}, false
		case w.Kind == api.Most && len(q.Body) > w.Limit:
			a, gaveUp = api.Answer{Status: 413}, false
		case w.Kind == api.Save && gaveUp:
			a, gaveUp = api.Answer{Status: 500, Body: "saved"}, false
		}
	}
	return a, gaveUp
}

// stacks tells all lists of at most n of some wares.
func stacks(of []api.Ware, n int) [][]api.Ware {
	all := [][]api.Ware{nil}
	for from := 0; n > 0; n-- {
		to := len(all)
		for _, below := range all[from:to] {
			for _, w := range of {
				all = append(all, append(slices.Clone(below), w))
			}
		}
		from = to
	}
	return all
}

func TestP16WaresInWares(t *testing.T) {
	kinds := []api.Ware{add("1"), add("2"), save, doubly, {Kind: api.Guard, Name: "Key", Value: "k"}, {Kind: api.Guard, Name: "Key", Value: "other"}, {Kind: api.Most, Limit: 4}, {Kind: api.Most, Limit: 3}}
	q := api.Request{Method: "GET", Fields: fields("X", "1", "Key", "k", "X", "2"), Body: "body"}
	for _, wares := range stacks(kinds, 4) {
		for target, made := range map[string]api.Answer{"/hi/you": {Status: 200, Body: "you"}, "/up": {}} {
			want, gaveUp := outward(wares, q, made, made.Status == 0)
			if gaveUp {
				want = api.Answer{Status: 500, Close: true}
			}
			q.Target = target
			checkReply(t, site(wares...), q, want)
		}
	}
}

func TestP17GivingUpHarmsNothingLater(t *testing.T) {
	for range 3 {
		checkReply(t, site(), ask("GET", "/up", "Connection", "keep-alive"), api.Answer{Status: 500, Close: true})
		checkReply(t, site(), ask("GET", "/hi/you"), api.Answer{Status: 200, Body: "you"})
		checkReply(t, site(save), ask("GET", "/up"), api.Answer{Status: 500, Body: "saved"})
		checkReply(t, site(), ask("HEAD", "/up"), api.Answer{Status: 500, Close: true})
	}
}

func TestP17GivingUpComesAheadOfValues(t *testing.T) {
	checkReply(t, site(add("\n")), ask("GET", "/up"), api.Answer{Status: 500, Close: true})
	checkReply(t, site(save, add("\n")), ask("GET", "/up"), api.Answer{Status: 500, Body: "saved"})
	checkReply(t, site(add("\n"), save), ask("GET", "/up"), api.Answer{Status: 500})
	checkReply(t, site(add("\n"), save), ask("GET", "/up", "Connection", "close"), api.Answer{Status: 500, Close: true})
}

// TestP17ValuesOfEveryByte: a CR, an LF and a byte 0, and no other byte, in a value make the answer 500.
func TestP17ValuesOfEveryByte(t *testing.T) {
	const enders = "\r\n\x00"
	escape := func(c int) string { return "%" + strconv.FormatInt(int64(c)+0x100, 16)[1:] }
	for c := range 256 {
		b := oneByte(c)
		for _, form := range [][2]string{{"", ""}, {"a", ""}, {"", "a"}, {"abcdefghijklmnop", "abcdefghijklmnop"}, {"\xe2", "\xff"}, {"\xe2\x80", ""}, {"\xc2", "\x80"}} {
			value := form[0] + b + form[1]
			added := api.Answer{Status: 200, Fields: fields("B", value), Body: "you"}
			copied := api.Answer{Status: 200, Fields: fields("X", "1", "X", value), Body: "you"}
			if has(enders, c) {
				added, copied = api.Answer{Status: 500}, api.Answer{Status: 500}
			}
			checkReply(t, site(add(value)), ask("GET", "/hi/you"), added)
			checkReply(t, site(doubly), ask("GET", "/hi/you", "X", "1", "x", value), copied)
			checkReply(t, site(api.Ware{Kind: api.Guard, Name: "X", Value: value}), ask("GET", "/hi/you", "X", value), api.Answer{Status: 200, Body: "you"})
		}
		labelled := api.Answer{Status: 200, Fields: fields("X-It", "a"+b+"b")}
		if has(enders, c) {
			labelled = api.Answer{Status: 500}
		}
		checkReply(t, site(), ask("PUT", "/label/a"+escape(c)+"b"), labelled)
		checkReply(t, site(), ask("GET", "/hi/a"+escape(c)), api.Answer{Status: 200, Body: "a" + b})
	}
}

func TestP17WhereTheValueStands(t *testing.T) {
	plain, wrong := []api.Ware{add("1"), add("2"), add("3"), save}, add("a\rb")
	for place := range len(plain) + 1 {
		c := site(slices.Insert(slices.Clone(plain), place, wrong)...)
		for _, target := range []string{"/hi/you", "/fix/", "/fix/?\x25"} {
			checkReply(t, c, ask("GET", target), api.Answer{Status: 500})
			checkReply(t, c, ask("GET", target, "connection", "Close"), api.Answer{Status: 500, Close: true})
		}
		checkReply(t, c, ask("GET", "/nowhere"), api.Answer{Status: 404})
	}
	checkReply(t, site(wrong, guard), ask("GET", "/hi/you"), api.Answer{Status: 500})
	checkReply(t, site(guard, wrong), ask("GET", "/hi/you"), api.Answer{Status: 403})
	checkReply(t, site(guard, wrong), ask("GET", "/hi/you", "Key", "k"), api.Answer{Status: 500})
}
