package image

import (
	"solenoid/api"
	"solenoid/code"
	"solenoid/kinds"
)

// maxFields is how many fields a struct has at most.
const maxFields = 6

// reader reads a program's parts. Behind the first error it goes on with zero values, as who asks for the end learns of it.
type reader struct{ *code.Reader }

func (r reader) image() api.Image {
	if r.Text() != mark {
		r.Fail(api.ErrKind)
	}
	return api.Image{
		Syms:   list(r, api.MaxSyms, r.sym),
		Consts: list(r, api.MaxConsts, r.Int),
		Funcs:  list(r, api.MaxFuncs, r.function),
	}
}

func (r reader) sym() api.Sym {
	s := api.Sym{Name: r.Text(), Type: r.kind(), Retain: r.flag()}
	s.Init = times(kinds.Size(s.Type), r.Int)
	return s
}

// kind is a variable's type. It is checked here, as it says how much is read next.
func (r reader) kind() api.Type {
	t := api.Type{Kind: r.Byte(), Elem: r.Byte(), N: r.Byte(), Fields: list(r, maxFields, r.field)}
	r.Fail(kinds.Check(t))
	return t
}

func (r reader) field() api.Field { return api.Field{Name: r.Text(), Kind: r.Byte()} }

func (r reader) flag() bool {
	n := r.Byte()
	if n > 1 {
		r.Fail(api.ErrBad)
	}
	return n == 1
}

func (r reader) function() []byte { return []byte(r.Text()) }

// list reads how many there are, and they.
func list[T any](r reader, most int, read func() T) []T {
	n := r.Byte()
	if n > most {
		r.Fail(api.ErrMany)
		return nil
	}
	return times(n, read)
}

func times[T any](n int, read func() T) []T {
	l := make([]T, n)
	for i := range l {
		l[i] = read()
	}
	return l
}
