package alias

import (
	"maps"
	"slices"

	"cupel/api"
)

// search goes from name to name, each once, however many ways lead to it.
type search struct {
	defs  map[string]api.T
	met   map[string]*mark
	way   []*mark // from the name where it began to the one where it is
	open  []*mark // from each of them names lead to one on the way, in the order in which they were met
	found map[string]struct{}
}

// mark is what is known of a name that was met.
type mark struct {
	name  string
	ahead []string // the names that it leads to and that weren't tried yet
	turn  int      // how many were met ahead of it
	least int      // the least turn of an open one that it is known to lead to, or its own
	open  bool
}

// circles are the names that lead to themselves. They are all found in one search: asked name by name, a long row of names would be gone through once for each of them.
func circles(defs map[string]api.T) map[string]struct{} {
	s := search{defs: defs, met: map[string]*mark{}, found: map[string]struct{}{}}
	for _, name := range slices.Sorted(maps.Keys(defs)) {
		if s.met[name] == nil {
			s.meet(name)
			s.goOn()
		}
	}
	return s.found
}

func (s *search) meet(name string) {
	turn := len(s.met)
	m := &mark{name: name, ahead: leads(s.defs[name]), turn: turn, least: turn, open: true}
	s.met[name] = m
	s.way = append(s.way, m)
	s.open = append(s.open, m)
}

// goOn follows and leaves names till it has left the one where it began. A loop, as names may lead on farther than calls may nest.
func (s *search) goOn() {
	for len(s.way) > 0 {
		at := s.way[len(s.way)-1]
		if len(at.ahead) == 0 {
			s.leave(at)
			continue
		}
		to := at.ahead[0]
		at.ahead = at.ahead[1:]
		s.follow(at, to)
	}
}

func (s *search) follow(at *mark, name string) {
	to := s.met[name]
	switch {
	case to == nil:
		s.meet(name)
	case to.open:
		// What is open leads to where the search is: here a circle is closed.
		s.found[name] = struct{}{}
		at.least = min(at.least, to.turn)
	}
}

func (s *search) leave(at *mark) {
	s.way = s.way[:len(s.way)-1]
	if at.least == at.turn {
		s.shut(at)
		return
	}
	// It leads to one that was met ahead of it, and that leads to it.
	s.found[at.name] = struct{}{}
	before := s.way[len(s.way)-1]
	before.least = min(before.least, at.least)
}

// shut takes off what is open from a name on: nothing of it leads to what was met ahead.
func (s *search) shut(from *mark) {
	for from.open {
		last := len(s.open) - 1
		s.open[last].open = false
		s.open = s.open[:last]
	}
}

// leads are the names that a normal type leads to.
func leads(t api.T) []string {
	var names []string
	for _, part := range parts(t) {
		if part.Kind == api.KRef {
			names = append(names, part.Name)
		}
	}
	return names
}
