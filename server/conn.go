package server

import (
	"strings"

	"porter/api"
	"porter/wire"
)

// Conn is a connection to a server.
type Conn struct {
	server   *Server
	held     string // what came in and is no whole request yet
	out      []byte // what is to go out
	requests int
	closed   bool
}

// Give takes bytes that came in, and answers each request that is whole by now.
func (c *Conn) Give(s string) api.Errno {
	if c.closed {
		return api.ErrClosed
	}
	c.held += s
reading:
	for !c.closed {
		q, n, errno := wire.Frame(c.server.limits, c.held)
		switch errno {
		case api.OK:
			c.held = c.held[n:]
			c.requests++
			c.send(q.Method, c.server.answer(q))
		case api.ErrMore:
			break reading
		default:
			c.send("", refusal(errno)) // the method may be unknown; it says nothing about a body that is empty
		}
	}
	c.held = strings.Clone(c.held) // it lies in the memory of s, which is not ours to keep
	return api.OK
}

// send lays an answer behind what is to go out; it may be the last one.
func (c *Conn) send(method string, a api.Answer) {
	c.out = append(c.out, wire.Render(method, a)...)
	if a.Close {
		c.close()
	}
}

func (c *Conn) close() {
	c.held = ""
	c.closed = true
}

// refusal is the answer that says why no more is read.
func refusal(errno api.Errno) api.Answer {
	return api.Answer{Status: refusalStatus(errno), Close: true}
}

func refusalStatus(errno api.Errno) int {
	switch errno {
	case api.ErrLarge:
		return 413
	case api.ErrHead:
		return 431
	case api.ErrCoding:
		return 501
	case api.ErrVersion:
		return 505
	}
	return 400 // ErrBad: Frame has no other error left, since a server's limits are right
}

// End closes the connection; what is to go out can still be taken.
func (c *Conn) End() api.Errno {
	if c.closed {
		return api.ErrClosed
	}
	c.close()
	return api.OK
}

// Take takes the first n bytes, or all, of what is to go out.
func (c *Conn) Take(n int) (string, api.Errno) {
	if n < 0 {
		return "", api.ErrArg
	}
	n = min(n, len(c.out))
	taken := string(c.out[:n])
	c.out = c.out[n:]
	if len(c.out) == 0 {
		c.out = nil // a list of none would still keep the memory of what has gone out
	}
	return taken, api.OK
}

// Fail closes the connection, and throws away what was to go out.
func (c *Conn) Fail() {
	c.out = nil
	c.close()
}

// Status tells how the connection is.
func (c *Conn) Status() api.Status {
	return api.Status{Requests: c.requests, Held: len(c.held), Pending: len(c.out), Closed: c.closed}
}
