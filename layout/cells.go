package layout

import (
	"strconv"

	"solenoid/api"
	"solenoid/kinds"
)

// lay is the variables' cells, one behind the other. A variable whose type may not be has none, as such a type may say any number of them.
func lay(l ...api.Sym) []api.Cell {
	var all []api.Cell
	for _, s := range l {
		if kinds.Check(s.Type) == api.OK {
			all = append(all, cells(s)...)
		}
	}
	return all
}

func cells(s api.Sym) []api.Cell {
	l := parts(s.Type)
	values := fill(len(l), s.Init...)
	c := make([]api.Cell, len(l))
	for i, part := range l {
		c[i] = api.Cell{Path: s.Name + part.Name, Kind: part.Kind, Retain: s.Retain, Init: values[i]}
	}
	switch s.Type.Kind {
	case api.Array:
		c[0].Len = len(c)
	case api.Ton, api.Ctu:
		c[0].Block = s.Type.Kind
	}
	return c
}

// parts tells of each cell what stands behind the variable's name in its path, and its kind.
func parts(t api.Type) []api.Field {
	switch t.Kind {
	case api.Array:
		l := make([]api.Field, t.N)
		for i := range l {
			l[i] = api.Field{Name: "[" + strconv.Itoa(i) + "]", Kind: t.Elem}
		}
		return l
	case api.Struct, api.Ton, api.Ctu:
		l := kinds.Fields(t)
		for i := range l {
			l[i].Name = "." + l[i].Name
		}
		return l
	}
	return []api.Field{{Kind: t.Kind}}
}

// fill is n values: those given, as far as they go, then noughts. The room behind those given is somebody else's, so they are cut off from it ahead of what is appended.
func fill(n int, given ...int) []int {
	k := min(n, len(given))
	return append(given[:k:k], make([]int, n-k)...)
}
