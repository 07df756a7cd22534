package kinds

import (
	"slices"

	"solenoid/api"
	"solenoid/names"
)

const (
	maxFields = 6 // of a struct
	maxName   = 8 // signs of a field's name
)

// kind is the number of a kind, of values or of variables, or of none.
type kind int

func (k kind) known() bool { return k >= api.Bool && k <= api.Ctu }

// single tells whether it is a kind of values: its variable is one cell.
func (k kind) single() bool { return k >= api.Bool && k <= api.Time }

// name is what a field is called.
type name string

func (s name) plain() bool { return names.Plain(string(s), maxName) }

func (s name) among(l ...api.Field) bool {
	return slices.ContainsFunc(l, func(f api.Field) bool { return f.Name == string(s) })
}

// field is a struct's field, asked what its name and its kind are asked.
type field struct {
	name
	kind
}

// check holds a field against those ahead of it.
func (f field) check(ahead ...api.Field) api.Errno {
	switch {
	case !f.plain() || f.among(ahead...):
		return api.ErrName
	case !f.single():
		return api.ErrKind
	}
	return api.OK
}

func checkFields(l ...api.Field) api.Errno {
	if len(l) < 1 || len(l) > maxFields {
		return api.ErrArg
	}
	for i, f := range l {
		e := field{name: name(f.Name), kind: kind(f.Kind)}.check(l[:i]...)
		if e != api.OK {
			return e
		}
	}
	return api.OK
}
