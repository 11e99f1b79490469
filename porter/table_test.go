package porter_test

import (
	"reflect"
	"slices"
	"strconv"
	"strings"
	"testing"

	"porter/api"
	"porter/porter"
)

func checkAdd(t *testing.T, x *porter.Table, method string, pattern string, number int, want api.Errno) {
	t.Helper()
	if n, e := x.Add(method, pattern); n != number || e != want {
		t.Errorf("P11: Add(%.30q, %.80q) = %d, %d, want %d, %d", method, pattern, n, e, number, want)
	}
}

func checkFind(t *testing.T, x *porter.Table, method string, path string, number int, want ...string) {
	t.Helper()
	if n, l, e := x.Find(method, path); n != number || e != api.OK || !slices.Equal(l, params(want...)) {
		t.Errorf("P12: Find(%.30q, %.80q) = %d, %q, %d, want %d, %q", method, path, n, l, e, number, want)
	}
}

func checkNotFound(t *testing.T, x *porter.Table, method string, path string, want api.Errno) {
	t.Helper()
	if n, l, e := x.Find(method, path); n != 0 || l != nil || e != want {
		t.Errorf("P12: Find(%.30q, %.80q) = %d, %q, %d, want error %d alone", method, path, n, l, e, want)
	}
}

func checkMethods(t *testing.T, x *porter.Table, path string, want ...string) {
	t.Helper()
	if l := x.Methods(path); !slices.Equal(l, want) {
		t.Errorf("P12: Methods(%.80q) = %q, want %q", path, l, want)
	}
}

// fill makes a table of n patterns, of which none overlap.
func fill(t *testing.T, n int) *porter.Table {
	t.Helper()
	x := porter.NewTable()
	for i := range n {
		checkAdd(t, x, "GET", "/"+strconv.Itoa(i), i, api.OK)
	}
	return x
}

func TestP11AddCountsFromNought(t *testing.T) {
	x := porter.NewTable()
	checkAdd(t, x, "GET", "/a/b", 0, api.OK)
	checkAdd(t, x, "GET", "/:x/c", 1, api.OK)
	checkAdd(t, x, "GET", "/:x/:y", 0, api.ErrTaken)
	checkAdd(t, x, "POST", "/:x/:y", 2, api.OK)
	checkAdd(t, x, "GET", "/", 3, api.OK)
	checkAdd(t, x, "get", "/a/b", 4, api.OK)
	checkMethods(t, x, "/a/b", "GET", "POST", "get")
}

func TestP11TakenTellsTheFirst(t *testing.T) {
	x := porter.NewTable()
	checkAdd(t, x, "PUT", "/*all", 0, api.OK)
	checkAdd(t, x, "GET", "/a", 1, api.OK)
	checkAdd(t, x, "GET", "/b", 2, api.OK)
	checkAdd(t, x, "GET", "/c/", 3, api.OK)
	checkAdd(t, x, "GET", "/*r", 1, api.ErrTaken)
	checkAdd(t, x, "GET", "/:p", 1, api.ErrTaken)
	checkAdd(t, x, "GET", "/b", 2, api.ErrTaken)
	checkAdd(t, x, "GET", "/c/*r", 3, api.ErrTaken)
	checkAdd(t, x, "GET", "/:p/*r", 3, api.ErrTaken)
	checkAdd(t, x, "PUT", "/nowhere", 0, api.ErrTaken)
	checkAdd(t, x, "GET", "/c/:p", 4, api.OK)
	checkAdd(t, x, "HEAD", "/*r", 5, api.OK)
}

func TestP11WrongMethods(t *testing.T) {
	x := porter.NewTable()
	for _, method := range []string{"", " ", "G T", "GET ", "/", "A,B", "é", "A\x00", "A\r\n", strings.Repeat("A", 17), xs(1000)} {
		checkAdd(t, x, method, "/", 0, api.ErrArg)
		checkAdd(t, x, method, "/:", 0, api.ErrArg)
		checkAdd(t, x, method, "", 0, api.ErrArg)
	}
	for c := range 256 {
		want := api.ErrArg
		if has(tokenBytes, c) {
			want = api.OK
		}
		checkAdd(t, porter.NewTable(), oneByte(c), "/", 0, want)
		checkAdd(t, porter.NewTable(), "A"+oneByte(c), "/", 0, want)
	}
	checkAdd(t, x, strings.Repeat("A", 16), "/", 0, api.OK)
}

func TestP11AFullTable(t *testing.T) {
	x := fill(t, api.MaxRoutes)
	for range 2 {
		checkAdd(t, x, "GET", "/24", 0, api.ErrFull)
		checkAdd(t, x, "PUT", "/24", 0, api.ErrFull)
		checkAdd(t, x, "GET", "/5", 0, api.ErrFull)
		checkAdd(t, x, "GET", "/:", 0, api.ErrPattern)
		checkAdd(t, x, "G T", "/5", 0, api.ErrArg)
		checkAdd(t, x, "", "", 0, api.ErrArg)
	}
	for i := range api.MaxRoutes {
		checkFind(t, x, "GET", "/"+strconv.Itoa(i), i)
	}
	checkNotFound(t, x, "GET", "/24", api.ErrNone)
	checkMethods(t, x, "/24")
}

func TestP11ErrorsChangeNothing(t *testing.T) {
	x := fill(t, api.MaxRoutes-1)
	for range 2 * api.MaxRoutes {
		checkAdd(t, x, "GET", "/22", 22, api.ErrTaken)
		checkAdd(t, x, "GET", "/*r", 0, api.ErrTaken)
		checkAdd(t, x, "", "/new", 0, api.ErrArg)
		checkAdd(t, x, "GET", "/:", 0, api.ErrPattern)
	}
	checkNotFound(t, x, "GET", "/new", api.ErrNone)
	checkAdd(t, x, "GET", "/new", api.MaxRoutes-1, api.OK)
	checkFind(t, x, "GET", "/new", api.MaxRoutes-1)
}

func TestP12Find(t *testing.T) {
	x := porter.NewTable()
	checkAdd(t, x, "GET", "/a/b", 0, api.OK)
	checkAdd(t, x, "GET", "/:x/c", 1, api.OK)
	checkAdd(t, x, "POST", "/:y/:z", 2, api.OK)
	checkAdd(t, x, "GET", "/files/of/*rest", 3, api.OK)
	checkFind(t, x, "GET", "/a/b", 0)
	checkFind(t, x, "GET", "/%61/b", 0)
	checkFind(t, x, "GET", "/a/c", 1, "x", "a")
	checkFind(t, x, "GET", "/a%2fb/c", 1, "x", "a/b")
	checkFind(t, x, "GET", "/files/of/", 3, "rest", "")
	checkFind(t, x, "GET", "/files/of/you/", 3, "rest", "you/")
	checkFind(t, x, "POST", "/a/b", 2, "y", "a", "z", "b")
	checkNotFound(t, x, "GET", "/a/d", api.ErrNone)
	checkNotFound(t, x, "GET", "/files/of", api.ErrNone)
	for _, method := range []string{"", "HEAD", "get", "GET ", "G T", "GETS", "GE", "\x00", xs(1000)} {
		checkNotFound(t, x, method, "/a/b", api.ErrNone)
	}
}

func TestP12WrongPaths(t *testing.T) {
	for n := range 4 {
		x := fill(t, n)
		checkAdd(t, x, "PUT", "/*all", n, api.OK)
		for _, path := range wrongPaths {
			for _, method := range []string{"GET", "PUT", "POST", "no method", ""} {
				checkNotFound(t, x, method, path, api.ErrBad)
			}
			checkMethods(t, x, path)
		}
	}
	checkNotFound(t, porter.NewTable(), "GET", "/", api.ErrNone)
	checkMethods(t, porter.NewTable(), "/")
}

func TestP12Methods(t *testing.T) {
	x := porter.NewTable()
	for i, method := range []string{"b", "PUT", "B", "a", "PU", "~", "GET", "!", "PUTS", "9"} {
		checkAdd(t, x, method, "/a", i, api.OK)
	}
	checkAdd(t, x, "A", "/*r", 10, api.OK)
	checkAdd(t, x, "GET", "/b", 11, api.OK)
	checkAdd(t, x, "PUT", "/:p/", 12, api.OK)
	checkMethods(t, x, "/a", "!", "9", "A", "B", "GET", "PU", "PUT", "PUTS", "a", "b", "~")
	checkMethods(t, x, "/%61", "!", "9", "A", "B", "GET", "PU", "PUT", "PUTS", "a", "b", "~")
	checkMethods(t, x, "/b", "A", "GET")
	checkMethods(t, x, "/b/", "A", "PUT")
	checkMethods(t, x, "/", "A")
}

// TestP12AllSmallTables lays patterns into tables as they come, and holds the tables against Match and Overlap.
func TestP12AllSmallTables(t *testing.T) {
	patterns, paths := smallPatterns(), smallPaths()
	for from := range patterns {
		x := porter.NewTable()
		var in []string
		for i := 0; i < len(patterns) && len(in) < api.MaxRoutes; i++ {
			pattern := patterns[(from+i*13)%len(patterns)]
			number, want := firstTaken(in, pattern)
			checkAdd(t, x, "GET", pattern, number, want)
			if want == api.OK {
				in = append(in, pattern)
			}
		}
		for _, path := range paths {
			checkAgainst(t, x, in, path)
		}
	}
}

func firstTaken(in []string, pattern string) (int, api.Errno) {
	for i, other := range in {
		if both, _ := porter.Overlap(other, pattern); both {
			return i, api.ErrTaken
		}
	}
	return len(in), api.OK
}

// checkAgainst says whether a table, with these patterns for GET, finds a path where hasPath says.
func checkAgainst(t *testing.T, x *porter.Table, in []string, path string) {
	t.Helper()
	number, params, want := 0, []api.Param(nil), api.ErrNone
	var methods []string
	for i, pattern := range in {
		if l, had := hasPath(pattern, path); had {
			number, params, want, methods = i, l, api.OK, []string{"GET"}
		}
	}
	if n, l, e := x.Find("GET", path); n != number || e != want || !slices.Equal(l, params) {
		t.Fatalf("P12: of %q Find(GET, %q) = %d, %q, %d, want %d, %q, %d", in, path, n, l, e, number, params, want)
	}
	checkMethods(t, x, path, methods...)
}

func TestP2TablesHaveNothingToDoWithOneAnother(t *testing.T) {
	one, other := porter.NewTable(), porter.NewTable()
	checkAdd(t, one, "GET", "/a", 0, api.OK)
	checkNotFound(t, other, "GET", "/a", api.ErrNone)
	checkMethods(t, other, "/a")
	checkAdd(t, other, "PUT", "/a", 0, api.OK)
	checkAdd(t, other, "GET", "/:p", 1, api.OK)
	checkAdd(t, one, "GET", "/b", 1, api.OK)
	checkFind(t, one, "GET", "/a", 0)
	checkFind(t, other, "GET", "/a", 1, "p", "a")
	checkMethods(t, one, "/a", "GET")
	checkMethods(t, other, "/a", "GET", "PUT")
	checkNotFound(t, porter.NewTable(), "GET", "/a", api.ErrNone)
}

func TestP2ListsOfTablesAreTheCallers(t *testing.T) {
	x := porter.NewTable()
	for i, method := range []string{"PUT", "GET", "POST"} {
		checkAdd(t, x, method, "/:one/*two", i, api.OK)
	}
	_, kept, _ := x.Find("GET", "/a/b")
	_, given, _ := x.Find("GET", "/a/b")
	spoilt(given)
	names := x.Methods("/a/b")
	names = names[:cap(names)]
	for i := range names {
		names[i] = "spoilt"
	}
	checkFind(t, x, "GET", "/a/b", 1, "one", "a", "two", "b")
	checkMethods(t, x, "/a/b", "GET", "POST", "PUT")
	if !reflect.DeepEqual(kept, params("one", "a", "two", "b")) {
		t.Errorf("P2: what the caller wrote into a list is seen: %q", kept)
	}
}

func TestP2TablesKeepNoTextThatWasHandedIn(t *testing.T) {
	method, pattern, path := strings.Clone("METHOD"), strings.Clone("/:one/*two"), strings.Clone("/a/b/c")
	x := porter.NewTable()
	checkAdd(t, x, method, pattern, 0, api.OK)
	_, l, _ := x.Find(method, path)
	texts := x.Methods(path)
	for _, p := range l {
		texts = append(texts, p.Name, p.Value)
	}
	for _, text := range texts {
		if shares(text, method) || shares(text, pattern) || shares(text, path) {
			t.Errorf("P2: %q lies in the memory of what was handed in", text)
		}
	}
}
