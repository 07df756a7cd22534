// Package code: bytes. See doc/01-code.md.
package code

import (
	"bytes"
	"slices"

	"solenoid/api"
)

// How many bytes a number, a byte and a text's length take, and how many a text may have.
const (
	wide    = 8
	narrow  = 1
	length  = 2
	maxText = 1<<16 - 1
)

func Int(b []byte, n int) []byte { return slices.Concat(b, little(n, wide)) }

func Byte(b []byte, n int) []byte { return slices.Concat(b, little(n, narrow)) }

func Text(b []byte, s string) []byte {
	s = s[:min(len(s), maxText)]
	return slices.Concat(b, little(len(s), length), []byte(s))
}

// little is a number's lowest bytes, the lowest one first.
func little(n, size int) []byte {
	b := make([]byte, size)
	for i := range b {
		b[i] = byte(n >> (8 * i))
	}
	return b
}

// Reader reads what was written, and keeps the first error.
type Reader struct {
	source
	fault
}

// New copies b, as the one who handed it in may change it while it is read.
func New(b []byte) *Reader { return &Reader{source: source{left: bytes.Clone(b)}} }

func (r *Reader) Int() int { return next(&r.fault, r.number) }

func (r *Reader) Byte() int { return next(&r.fault, r.octet) }

func (r *Reader) Text() string { return next(&r.fault, r.text) }

func (r *Reader) Fail(e api.Errno) { r.note(e) }

// End does not note ErrMore: what is left may still be read behind it.
func (r *Reader) End() api.Errno {
	if r.sound() && len(r.left) > 0 {
		return api.ErrMore
	}
	return r.first
}

// next asks read only while there is no error, so that nothing is read behind the first one.
func next[T any](f *fault, read func() (T, api.Errno)) T {
	var none T
	if !f.sound() {
		return none
	}
	x, e := read()
	if e != api.OK {
		f.note(e)
		return none
	}
	return x
}
