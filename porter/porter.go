// Package porter: a strict server of requests that come as bytes: see DOC.md.
package porter

import (
	"porter/api"
	"porter/routes"
	"porter/server"
	"porter/site"
	"porter/wire"
	"porter/words"
)

// IsToken tells whether a text is a token (P3).
func IsToken(s string) bool { return words.IsToken(s) }

// Decimal tells a number (P3).
func Decimal(s string) (int, api.Errno) { return words.Decimal(s) }

// Hex tells a chunk's size (P3).
func Hex(s string) (int, api.Errno) { return words.Hex(s) }

// Unescape tells what escaped bytes stand for (P3).
func Unescape(s string) (string, api.Errno) { return words.Unescape(s) }

// Reason tells a status in words (P4).
func Reason(status int) string { return wire.Reason(status) }

// Frame tells the request with which some bytes begin, and how many bytes it has (P5, P6).
func Frame(l api.Limits, s string) (api.Request, int, api.Errno) { return wire.Frame(l, s) }

// Print tells a request as bytes (P7).
func Print(q api.Request, how int, sizes []int) (string, api.Errno) {
	return wire.Print(q, how, sizes)
}

// Match tells a pattern's parameters in a path (P9).
func Match(pattern string, path string) ([]api.Param, api.Errno) { return routes.Match(pattern, path) }

// Overlap tells whether two patterns have a path in common (P10).
func Overlap(p string, q string) (bool, api.Errno) { return routes.Overlap(p, q) }

// Table is a table of patterns.
type Table struct {
	inner routes.Table
}

// NewTable makes a table without patterns (P11).
func NewTable() *Table { return &Table{} }

// Add lays a pattern into the table (P11).
func (t *Table) Add(method string, pattern string) (int, api.Errno) {
	return t.inner.Add(method, pattern)
}

// Find tells which pattern has a path (P12).
func (t *Table) Find(method string, path string) (int, []api.Param, api.Errno) {
	return t.inner.Find(method, path)
}

// Methods tells for which methods a path is had (P12).
func (t *Table) Methods(path string) []string { return t.inner.Methods(path) }

// Check tells whether a configuration is right (P13).
func Check(c api.Config) (int, api.Errno) {
	_, number, errno := site.New(c)
	return number, errno
}

// Dispatch tells where a request leads (P14).
func Dispatch(c api.Config, method string, target string) (api.Found, api.Errno) {
	s, _, errno := site.New(c)
	if errno != api.OK {
		return api.Found{}, errno
	}
	return s.Dispatch(method, target)
}

// Reply tells the answer to a request (P15 to P17).
func Reply(c api.Config, q api.Request) (api.Answer, api.Errno) {
	s, _, errno := site.New(c)
	if errno != api.OK {
		return api.Answer{}, errno
	}
	return s.Reply(q)
}

// Render tells an answer as bytes (P18).
func Render(method string, a api.Answer) string { return wire.Render(method, a) }

// Server answers requests by one configuration.
type Server struct {
	inner *server.Server
}

// NewServer makes a server (P19).
func NewServer(c api.Config) (*Server, api.Errno) {
	inner, errno := server.New(c)
	if errno != api.OK {
		return nil, errno
	}
	return &Server{inner}, api.OK
}

// Hits tells how often each route was found (P19).
func (s *Server) Hits() []int { return s.inner.Hits() }

// Conn is a connection to a server.
type Conn struct {
	inner *server.Conn
}

// Open opens a connection (P19).
func (s *Server) Open() *Conn { return &Conn{s.inner.Open()} }

// Give gives the connection bytes that came in (P20).
func (c *Conn) Give(s string) api.Errno { return c.inner.Give(s) }

// End says that nothing more comes in (P21).
func (c *Conn) End() api.Errno { return c.inner.End() }

// Take takes bytes that are to go out (P21).
func (c *Conn) Take(n int) (string, api.Errno) { return c.inner.Take(n) }

// Fail says that nothing more can go out (P21).
func (c *Conn) Fail() { c.inner.Fail() }

// Status tells how the connection is (P21).
func (c *Conn) Status() api.Status { return c.inner.Status() }
