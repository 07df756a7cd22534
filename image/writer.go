package image

import (
	"solenoid/api"
	"solenoid/code"
)

// writer writes the parts of a program that Check lets through.
type writer struct{ written []byte }

func (w *writer) image(m api.Image) {
	w.text(mark)
	counted(w, m.Syms, w.sym)
	counted(w, m.Consts, w.number)
	counted(w, m.Funcs, w.function)
}

// sym writes no count of the values, as the type says it.
func (w *writer) sym(s api.Sym) {
	w.text(s.Name)
	w.octet(s.Type.Kind)
	w.octet(s.Type.Elem)
	w.octet(s.Type.N)
	counted(w, s.Type.Fields, w.field)
	w.flag(s.Retain)
	each(s.Init, w.number)
}

func (w *writer) field(f api.Field) {
	w.text(f.Name)
	w.octet(f.Kind)
}

func (w *writer) function(f []byte) { w.text(string(f)) }

func (w *writer) number(n int) { w.written = code.Int(w.written, n) }

func (w *writer) octet(n int) { w.written = code.Byte(w.written, n) }

func (w *writer) text(s string) { w.written = code.Text(w.written, s) }

func (w *writer) flag(set bool) {
	n := 0
	if set {
		n = 1
	}
	w.octet(n)
}

// counted writes how many there are, and they.
func counted[T any](w *writer, l []T, write func(T)) {
	w.octet(len(l))
	each(l, write)
}

func each[T any](l []T, write func(T)) {
	for _, x := range l {
		write(x)
	}
}
