// Package site answers requests by a configuration.
package site

import (
	"strings"

	"porter/api"
	"porter/routes"
	"porter/wire"
	"porter/words"
)

// The statuses that a handler may answer with.
const (
	minStatus = 200
	maxStatus = 599
)

// Site is a configuration that is right. Its handlers have the numbers of the routes in its table.
type Site struct {
	table    routes.Table
	handlers []api.Handler
	wares    []api.Ware
}

// New reads a configuration. With an error it tells the number of the route or the ware that is not right.
func New(c api.Config) (*Site, int, api.Errno) {
	if !wire.RightLimits(c.Limits) {
		return nil, 0, api.ErrArg
	}
	if len(c.Routes) > api.MaxRoutes || len(c.Wares) > api.MaxWares {
		return nil, 0, api.ErrFull
	}
	s := &Site{}
	for number, r := range c.Routes {
		if errno := s.add(r); errno != api.OK {
			return nil, number, errno
		}
	}
	for number, w := range c.Wares {
		if !rightWare(w) {
			return nil, number, api.ErrWare
		}
		s.wares = append(s.wares, cloneWare(w))
	}
	return s, 0, api.OK
}

func (s *Site) add(r api.Route) api.Errno {
	if _, errno := s.table.Add(r.Method, r.Pattern); errno != api.OK {
		return errno
	}
	if !rightHandler(r.Handler) {
		return api.ErrHandler
	}
	s.handlers = append(s.handlers, cloneHandler(r.Handler))
	return api.OK
}

// cloneHandler and cloneWare give texts memory of their own: a site may stand longer than what it was read from.
func cloneHandler(h api.Handler) api.Handler {
	h.Text, h.Name = strings.Clone(h.Text), strings.Clone(h.Name)
	return h
}

func cloneWare(w api.Ware) api.Ware {
	w.Name, w.Value = strings.Clone(w.Name), strings.Clone(w.Value)
	return w
}

func rightHandler(h api.Handler) bool {
	if h.Status < minStatus || h.Status > maxStatus || len(h.Text) > api.MaxText {
		return false
	}
	switch h.Kind {
	case api.Fixed, api.Echo, api.Tell, api.Break:
		return true
	case api.Label:
		return words.IsLabel(h.Text)
	}
	return false
}

func rightWare(w api.Ware) bool {
	if len(w.Name) > api.MaxText || len(w.Value) > api.MaxText {
		return false
	}
	switch w.Kind {
	case api.Add, api.Copy:
		return words.IsLabel(w.Name)
	case api.Guard:
		return words.IsToken(w.Name)
	case api.Most:
		return w.Limit >= 0
	case api.Save:
		return true
	}
	return false
}
