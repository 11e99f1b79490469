// Package site answers requests by a configuration.
package site

import (
	"slices"

	"porter/api"
	"porter/routes"
	"porter/wire"
	"porter/words"
)

// The statuses that a handler may answer with.
const (
	minStatus = 200
	maxStatus = 599
)

// Site is a configuration that is right. Its handlers have the numbers of the routes in its table.
type Site struct {
	table    routes.Table
	handlers []api.Handler
	wares    []api.Ware
}

// New reads a configuration. With an error it tells the number of the route or the ware that is not right.
func New(c api.Config) (*Site, int, api.Errno) {
	if !wire.RightLimits(c.Limits) {
		return nil, 0, api.ErrArg
	}
	if len(c.Routes) > api.MaxRoutes || len(c.Wares) > api.MaxWares {
		return nil, 0, api.ErrFull
	}
	s := &Site{}
	for number, r := range c.Routes {
		if errno := s.add(r); errno != api.OK {
			return nil, number, errno
		}
	}
	for number, w := range c.Wares {
		if !rightWare(w) {
			return nil, number, api.ErrWare
		}
	}
	s.wares = slices.Clone(c.Wares)
	return s, 0, api.OK
}

func (s *Site) add(r api.Route) api.Errno {
	if _, errno := s.table.Add(r.Method, r.Pattern); errno != api.OK {
		return errno
	}
	if !rightHandler(r.Handler) {
		return api.ErrHandler
	}
	s.handlers = append(s.handlers, r.Handler)
	return api.OK
}

func rightHandler(h api.Handler) bool {
	if h.Status < minStatus || h.Status > maxStatus || len(h.Text) > api.MaxText {
		return false
	}
	switch h.Kind {
	case api.Fixed, api.Echo, api.Tell, api.Break:
		return true
	case api.Label:
		return words.IsLabel(h.Text)
	}
	return false
}

func rightWare(w api.Ware) bool {
	if len(w.Name) > api.MaxText || len(w.Value) > api.MaxText {
		return false
	}
	switch w.Kind {
	case api.Add, api.Copy:
		return words.IsLabel(w.Name)
	case api.Guard:
		return words.IsToken(w.Name)
	case api.Most:
		return w.Limit >= 0
	case api.Save:
		return true
	}
	return false
}
