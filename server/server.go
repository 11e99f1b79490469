// Package server answers what comes in on connections by a configuration.
package server

import (
	"slices"
	"sync"

	"porter/api"
	"porter/site"
)

// Server is a configuration that is right, and how often each of its routes was found.
type Server struct {
	limits api.Limits
	site   *site.Site
	mutex  sync.Mutex // over hits: all else that connections have in common is never written
	hits   []int
}

// New makes a server that goes by a configuration, if that is right.
func New(c api.Config) (*Server, api.Errno) {
	its, _, errno := site.New(c)
	if errno != api.OK {
		return nil, errno
	}
	return &Server{limits: c.Limits, site: its, hits: make([]int, len(c.Routes))}, api.OK
}

// Open opens a connection.
func (s *Server) Open() *Conn { return &Conn{server: s} }

// Hits tells for each route how many requests led to it.
func (s *Server) Hits() []int {
	s.mutex.Lock()
	defer s.mutex.Unlock()
	return slices.Clone(s.hits)
}

// answer tells the answer to a request that Frame told, and counts it.
func (s *Server) answer(q api.Request) api.Answer {
	s.count(q)
	a, _ := s.site.Reply(q) // no error: what Frame told has a method and a target
	return a
}

// count goes by where a request leads, ahead of its answer: whatever comes of it, it counts.
func (s *Server) count(q api.Request) {
	found, _ := s.site.Dispatch(q.Method, q.Target)
	if found.Status != 200 {
		return
	}
	s.mutex.Lock()
	defer s.mutex.Unlock()
	s.hits[found.Route]++
}
