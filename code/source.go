package code

import "solenoid/api"

// source is the bytes that are not read yet.
type source struct{ left []byte }

func (s *source) number() (int, api.Errno) { return s.little(wide) }

func (s *source) octet() (int, api.Errno) { return s.little(narrow) }

func (s *source) text() (string, api.Errno) {
	n, e := s.little(length)
	if e != api.OK {
		return "", e
	}
	b, e := s.take(n)
	return string(b), e
}

// little reads a number of so many bytes, the lowest one first.
func (s *source) little(size int) (int, api.Errno) {
	b, e := s.take(size)
	n := 0
	for i, x := range b {
		n |= int(x) << (8 * i)
	}
	return n, e
}

func (s *source) take(n int) ([]byte, api.Errno) {
	if n > len(s.left) {
		return nil, api.ErrCut
	}
	b := s.left[:n]
	s.left = s.left[n:]
	return b, api.OK
}

// fault is the first error that was noted.
type fault struct{ first api.Errno }

func (f *fault) note(e api.Errno) {
	if f.sound() {
		f.first = e
	}
}

func (f *fault) sound() bool { return f.first == api.OK }
