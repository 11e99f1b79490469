package porter_test

import (
	"reflect"
	"slices"
	"strconv"
	"strings"
	"testing"

	"porter/api"
	"porter/porter"
)

const (
	lowers     = "abcdefghijklmnopqrstuvwxyz"
	fixedBytes = letters + decimals + "-._~"
	nameBytes  = lowers + decimals
)

// params are the parameters that a list of names and values, by turns, tells.
func params(namesAndValues ...string) []api.Param {
	var list []api.Param
	for i := 0; i < len(namesAndValues); i += 2 {
		list = append(list, api.Param{Name: namesAndValues[i], Value: namesAndValues[i+1]})
	}
	return list
}

func checkMatch(t *testing.T, pattern string, path string, want ...string) {
	t.Helper()
	if l, e := porter.Match(pattern, path); e != api.OK || !slices.Equal(l, params(want...)) {
		t.Errorf("P9: Match(%.80q, %.80q) = %q, %d, want %q", pattern, path, l, e, want)
	}
}

func checkNoMatch(t *testing.T, pattern string, path string, want api.Errno) {
	t.Helper()
	if l, e := porter.Match(pattern, path); e != want || l != nil {
		t.Errorf("P9: Match(%.80q, %.80q) = %q, %d, want error %d alone", pattern, path, l, e, want)
	}
}

// checkPattern says whether all calls agree on whether a text is a pattern.
func checkPattern(t *testing.T, s string, right bool) {
	t.Helper()
	want := api.OK
	if !right {
		want = api.ErrPattern
	}
	if l, e := porter.Match(s, "no path"); e != want && (!right || e != api.ErrBad) || l != nil {
		t.Errorf("P9: Match(%.80q, no path) = %q, %d, pattern: %v", s, l, e, right)
	}
	if both, e := porter.Overlap(s, s); e != want || both != right {
		t.Errorf("P10: Overlap(%.80q, itself) = %v, %d, pattern: %v", s, both, e, right)
	}
	if both, e := porter.Overlap(s, "/"); e != want || !right && both {
		t.Errorf("P10: Overlap(%.80q, /) = %v, %d, pattern: %v", s, both, e, right)
	}
	if both, e := porter.Overlap("/", s); e != want || !right && both {
		t.Errorf("P10: Overlap(/, %.80q) = %v, %d, pattern: %v", s, both, e, right)
	}
	if n, e := porter.NewTable().Add("GET", s); e != want || n != 0 {
		t.Errorf("P11: Add(GET, %.80q) = %d, %d, pattern: %v", s, n, e, right)
	}
}

func TestP9WhatIsAPattern(t *testing.T) {
	for s, right := range map[string]bool{
		"/": true, "//": true, "///": true, "/a": true, "/a/": true, "/a//b": true, "/.": true, "/..": true, "/~/-/_": true,
		"/:a": true, "/:0": true, "/:a/:b": true, "/:a/:ab": true, "/:a/": true, "//:a": true, "/*a": true, "/a/*a": true, "//*r": true,
		"/:a/:b/*c": true, "/a/:a": true, "/:a/a": true, "/a/a/a": true, "/:a/b/a/*d": true,
		"": false, "a": false, "a/": false, ":a": false, "*a": false, " /": false, "?": false, "/ ": false, "/a?": false, "/#": false,
		"/:": false, "/*": false, "/:/a": false, "/a/:": false, "/a/*": false, "/::a": false, "/:a:b": false, "/**a": false, "/:*a": false, "/*:a": false,
		"/*a/": false, "/*a/b": false, "/*a/*b": false, "/*a/:b": false, "/a/*b/c": false, "/a:": false, "/a:b": false, "/a*": false, "/a*b": false,
		"/:A": false, "/:aB": false, "/:a-b": false, "/:a_": false, "/:a.": false, "/:é": false, "/*A": false, "/*a b": false, "/:%61": false,
		"/:a/:a": false, "/:a/*a": false, "/:a/b/:a": false, "/:a/:b/:a": false, "/:a/:b/*b": false, "/:b/:a/:c/*a": false,
		"/%41": false, "/a%2f": false, "/é": false, "/a\x00": false, "/\n": false, "/\r\n": false, "/{a}": false, "/a+b": false,
	} {
		checkPattern(t, s, right)
	}
}

func TestP9PatternsOfEveryByte(t *testing.T) {
	for c := range 256 {
		b := oneByte(c)
		if c == '/' {
			continue
		}
		checkPattern(t, "/a"+b, has(fixedBytes, c))
		checkPattern(t, "/a"+b+"a", has(fixedBytes, c))
		checkPattern(t, "/"+b+"a", has(fixedBytes+":*", c))
		checkPattern(t, "/"+b, has(fixedBytes, c))
		checkPattern(t, b+"/a", false)
		for _, mark := range []string{":", "*"} {
			checkPattern(t, "/"+mark+b, has(nameBytes, c))
			checkPattern(t, "/a/"+mark+"a"+b, has(nameBytes, c))
			checkPattern(t, "/a/"+mark+b+"a", has(nameBytes, c))
		}
	}
}

func TestP9LongestPatterns(t *testing.T) {
	for _, head := range []string{"/", "/:", "/*", "/a/:", "/:a/*"} {
		for n := 60; n < 70; n++ {
			checkPattern(t, head+strings.Repeat("z", n-len(head)), n <= api.MaxPattern)
		}
	}
	checkPattern(t, strings.Repeat("/", 64), true)
	checkPattern(t, strings.Repeat("/", 65), false)
	checkMatch(t, "/:"+strings.Repeat("n", 62), "/v", strings.Repeat("n", 62), "v")
	checkMatch(t, strings.Repeat("/", 64), strings.Repeat("/", 64))
	checkNoMatch(t, strings.Repeat("/", 64), strings.Repeat("/", 63), api.ErrNone)
	checkNoMatch(t, strings.Repeat("/", 64), strings.Repeat("/", 65), api.ErrNone)
	checkMatch(t, "/*r", "/"+xs(100000), "r", xs(100000))
	checkMatch(t, "/:p", "/"+xs(100000), "p", xs(100000))
}

func TestP9FixedPieces(t *testing.T) {
	for _, s := range []string{"/", "//", "/a", "/a/", "//a", "/a//b", "/a/b/c/", "/.", "/..", "/" + fixedBytes[:63]} {
		checkMatch(t, s, s)
		checkNoMatch(t, s, s+"/", api.ErrNone)
		checkNoMatch(t, s, "/"+s, api.ErrNone)
		checkNoMatch(t, s, s+"a", api.ErrNone)
		checkNoMatch(t, s, s+"?", api.ErrNone)
	}
	checkMatch(t, "/a/b", "/%61/%62")
	checkMatch(t, "/.-_~9Z", "/%2e%2D%5f%7E%39%5A")
	checkNoMatch(t, "/a", "/A", api.ErrNone)
	checkNoMatch(t, "/a", "/%41", api.ErrNone)
	checkNoMatch(t, "/a", "/%2561", api.ErrNone)
	checkNoMatch(t, "/a/b", "/a%2fb", api.ErrNone)
	checkNoMatch(t, "/a/b", "/b/a", api.ErrNone)
	checkNoMatch(t, "/a", "/", api.ErrNone)
	checkNoMatch(t, "/", "/a", api.ErrNone)
	checkNoMatch(t, "/a", "/%00a", api.ErrNone)
}

func TestP9Parameters(t *testing.T) {
	checkMatch(t, "/hi/:name", "/hi/you", "name", "you")
	checkMatch(t, "/hi/:name", "/hi/a%2Fb", "name", "a/b")
	checkMatch(t, "/:0/:1/:2", "/c/b/a", "0", "c", "1", "b", "2", "a")
	checkMatch(t, "/:z/x/:a", "/1/x/2", "z", "1", "a", "2")
	checkMatch(t, "/:a", "/%25", "a", "%")
	checkMatch(t, "/:a", "/%2541", "a", "%41")
	checkMatch(t, "/:a", "/%00", "a", "\x00")
	checkMatch(t, "/:a", "/%2f", "a", "/")
	checkMatch(t, "/:a", "/:a", "a", ":a")
	checkMatch(t, "/:a", "/?b#c d", "a", "?b#c d")
	checkMatch(t, "/:a/", "/x/", "a", "x")
	checkMatch(t, "//:a", "//x", "a", "x")
	for _, path := range []string{"/", "//", "/x/", "//x", "/x/y", "/%2f/"} {
		checkNoMatch(t, "/:a", path, api.ErrNone)
	}
	for _, path := range []string{"/x", "/x/", "//y", "/x/y/", "/x/y/z", "//", "/"} {
		checkNoMatch(t, "/:a/:b", path, api.ErrNone)
	}
	for c := range 256 {
		want := oneByte(c)
		checkMatch(t, "/x/:a", "/x/%"+strconv.FormatInt(int64(c)+0x100, 16)[1:], "a", want)
		if c != '/' && c != '%' {
			checkMatch(t, "/x/:a", "/x/"+want, "a", want)
			checkMatch(t, "/x/*a", "/x/"+want, "a", want)
		}
	}
}

func TestP9Rests(t *testing.T) {
	checkMatch(t, "/*all", "/", "all", "")
	checkMatch(t, "/*all", "//", "all", "/")
	checkMatch(t, "/*all", "/a/b/", "all", "a/b/")
	checkMatch(t, "/a/*r", "/a/", "r", "")
	checkMatch(t, "/a/*r", "/a//", "r", "/")
	checkMatch(t, "/a/*r", "/a/b//", "r", "b//")
	checkMatch(t, "/a/*r", "/a/b%2f/%2F", "r", "b///")
	checkMatch(t, "/a/*r", "/a/%25/%2541", "r", "%/%41")
	checkMatch(t, "/:p/*r", "/x/y/z", "p", "x", "r", "y/z")
	checkMatch(t, "//*r", "//", "r", "")
	for _, path := range []string{"/a", "/", "/b/c", "//a", "/a%2f", "/a%2fb"} {
		checkNoMatch(t, "/a/*r", path, api.ErrNone)
	}
	checkNoMatch(t, "/:p/*r", "//y", api.ErrNone)
	checkNoMatch(t, "/:p/*r", "/x", api.ErrNone)
	checkNoMatch(t, "/:p/:q/*r", "/x/y", api.ErrNone)
}

// wrongPaths are texts that are no path.
var wrongPaths = []string{"", "a", "a/", " /", "?", "%2f", "%2fa", "/%", "/a%", "/%4", "/%4/1", "/%%41", "/a/%g0", "/a%2", "a%", "/a/b/%", "\\"}

func TestP9TheOrderOfErrors(t *testing.T) {
	for _, path := range wrongPaths {
		checkNoMatch(t, "/:", path, api.ErrPattern)
		checkNoMatch(t, "", path, api.ErrPattern)
		for _, pattern := range []string{"/", "/a", "/b/c/d", "/:a", "/*r", "/a/*r"} {
			checkNoMatch(t, pattern, path, api.ErrBad)
		}
	}
	for _, path := range []string{"/", "/a", "/a/b", "/%41"} {
		checkNoMatch(t, "/:", path, api.ErrPattern)
		checkNoMatch(t, "/nowhere", path, api.ErrNone)
	}
}

func checkOverlap(t *testing.T, p string, q string, want bool) {
	t.Helper()
	for range 2 {
		if got, e := porter.Overlap(p, q); e != api.OK || got != want {
			t.Errorf("P10: Overlap(%q, %q) = %v, %d, want %v", p, q, got, e, want)
		}
		p, q = q, p
	}
}

func TestP10Overlap(t *testing.T) {
	for _, c := range []struct {
		p, q string
		want bool
	}{
		{"/a/:y", "/:x/c", true}, {"/a/b", "/:x/c", false}, {"/", "/:x", false}, {"/a/*r", "/a", false},
		{"/", "/*r", true}, {"/:x", "/*r", true}, {"/a/*r", "/a/", true}, {"/a/*r", "/a/b/c", true}, {"/a/*r", "/b/c", false},
		{"/a/*r", "/:x", false}, {"/a/*r", "/:x/:y", true}, {"/a/*r", "//:y", false}, {"/:x/*r", "//a", false}, {"/:x/*r", "//*r", false},
		{"/:x", "/:y", true}, {"/:x", "/:x", true}, {"/a", "/A", false}, {"/a", "/a/", false}, {"/:x", "/:x/", false}, {"/:x/", "/a/", true},
		{"/a/b/*r", "/a/*r", true}, {"/a/b/*r", "/:x/c/*r", false}, {"/a/b/*r", "/*r", true}, {"/a/b/c/*r", "/a/b", false}, {"/a/b/c/*r", "/a/b/c", false},
		{"/a//:x", "/a/:y/b", false}, {"/a//b", "/a/*r", true}, {"//", "/:x/", false}, {"//", "/*r", true},
	} {
		checkOverlap(t, c.p, c.q, c.want)
	}
}

func TestP10WrongPatterns(t *testing.T) {
	for _, wrong := range []string{"", "a", "/:", "/*", "/*r/a", "/:a/:a", "/a%41", "/" + strings.Repeat("a", 64)} {
		for _, other := range []string{"/", "/*r", "/a", wrong, "", "/:"} {
			for _, pair := range [][]string{{wrong, other}, {other, wrong}} {
				if got, e := porter.Overlap(pair[0], pair[1]); got || e != api.ErrPattern {
					t.Errorf("P10: Overlap(%q, %q) = %v, %d, want ErrPattern", pair[0], pair[1], got, e)
				}
			}
		}
	}
}

// grow tells all texts of one to most pieces, with a / ahead of each; an end may be the last piece alone.
// A : among the pieces gets a name that tells its place, so that no two are the same.
func grow(pieces []string, ends []string, most int) []string {
	var all []string
	heads := []string{""}
	for place := range most {
		var longer []string
		for _, head := range heads {
			for _, end := range ends {
				all = append(all, head+"/"+end)
			}
			for _, piece := range pieces {
				longer = append(longer, head+"/"+strings.Replace(piece, ":", ":"+strconv.Itoa(place), 1))
			}
		}
		all = append(all, longer...)
		heads = longer
	}
	return all
}

func smallPatterns() []string { return grow([]string{"", "a", "b", ":"}, []string{"*r"}, 3) }

func smallPaths() []string { return grow([]string{"", "a", "b", "c", "%61"}, nil, 4) }

// hasPath tells by the words of the document, piece by piece, whether a pattern has a path.
func hasPath(pattern string, path string) ([]api.Param, bool) {
	own, its := strings.Split(pattern, "/")[1:], strings.Split(path, "/")[1:]
	var list []api.Param
	for i, piece := range own {
		if i >= len(its) {
			return nil, false
		}
		if name, found := strings.CutPrefix(piece, "*"); found {
			value, _ := porter.Unescape(strings.Join(its[i:], "/"))
			return append(list, api.Param{Name: name, Value: value}), true
		}
		value, _ := porter.Unescape(its[i])
		if name, found := strings.CutPrefix(piece, ":"); found && its[i] != "" {
			list = append(list, api.Param{Name: name, Value: value})
		} else if piece != value {
			return nil, false
		}
	}
	return list, len(own) == len(its)
}

func TestP9AllSmallPatternsAndPaths(t *testing.T) {
	for _, pattern := range smallPatterns() {
		for _, path := range smallPaths() {
			want, had := hasPath(pattern, path)
			l, e := porter.Match(pattern, path)
			if had && (e != api.OK || !slices.Equal(l, want)) || !had && (e != api.ErrNone || l != nil) {
				t.Fatalf("P9: Match(%q, %q) = %q, %d, want %q, %v", pattern, path, l, e, want, had)
			}
		}
	}
}

func TestP10OverlapIsAPathThatBothHave(t *testing.T) {
	patterns, paths := smallPatterns(), smallPaths()
	for _, p := range patterns {
		var those []string
		for _, path := range paths {
			if _, had := hasPath(p, path); had {
				those = append(those, path)
			}
		}
		for _, q := range patterns {
			want := slices.ContainsFunc(those, func(path string) bool {
				_, had := hasPath(q, path)
				return had
			})
			if got, e := porter.Overlap(p, q); e != api.OK || got != want {
				t.Fatalf("P10: Overlap(%q, %q) = %v, %d, want %v", p, q, got, e, want)
			}
		}
	}
}

func TestP2ListsOfMatchAreTheCallers(t *testing.T) {
	pattern, path := strings.Clone("/:one/:two/*three"), strings.Clone("/a/b/c/d")
	want := params("one", "a", "two", "b", "three", "c/d")
	first, _ := porter.Match(pattern, path)
	second, _ := porter.Match(pattern, path)
	for _, p := range first {
		if shares(p.Name, pattern) || shares(p.Value, path) {
			t.Errorf("P2: %q lies in the memory of what was handed in", p)
		}
	}
	spoilt(first)
	third, _ := porter.Match(pattern, path)
	if !reflect.DeepEqual(second, want) || !reflect.DeepEqual(third, want) {
		t.Errorf("P2: what the caller wrote into a list is seen: %q, %q", second, third)
	}
}

// spoilt writes over a list and its spare room, as a caller may.
func spoilt(list []api.Param) {
	list = list[:cap(list)]
	for i := range list {
		list[i] = api.Param{Name: "spoilt", Value: "spoilt"}
	}
}
