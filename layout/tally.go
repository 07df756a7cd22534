package layout

import (
	"slices"

	"solenoid/api"
	"solenoid/kinds"
	"solenoid/names"
)

// maxName is how many signs a variable's name has at most.
const maxName = 12

// tally is what is told of the variables so far.
type tally struct {
	met   map[string]int // how often each name was met
	cells int
	kept  int // cells of variables with Retain
}

// add holds a variable against those ahead of it.
func (t *tally) add(s api.Sym) api.Errno {
	t.met[s.Name]++
	if !names.Plain(s.Name, maxName) || t.met[s.Name] > 1 {
		return api.ErrName
	}
	if e := kinds.Check(s.Type); e != api.OK {
		return e
	}
	n := kinds.Size(s.Type)
	t.count(n, s.Retain)
	switch {
	case t.cells > api.MaxCells:
		return api.ErrMany
	case len(s.Init) != n:
		return api.ErrArg
	case !fit(lay(s)...):
		return api.ErrOver
	}
	return api.OK
}

func (t *tally) count(n int, retain bool) {
	t.cells += n
	if retain {
		t.kept += n
	}
}

// fit tells whether all cells begin with values of their kinds.
func fit(l ...api.Cell) bool {
	return !slices.ContainsFunc(l, func(c api.Cell) bool { return kinds.Wrap(c.Kind, c.Init) != c.Init })
}
