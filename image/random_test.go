package image_test

import (
	"bytes"
	"encoding/binary"
	"math"
	"strconv"
	"testing"

	"solenoid/api"
	"solenoid/image"
	"solenoid/kinds"
)

type dice uint64

func (d *dice) below(n int) int {
	*d = *d*6364136223846793005 + 1442695040888963407
	return int(uint64(*d)>>33) % n
}

func (d *dice) number() int { return d.below(1<<31)<<33 ^ d.below(1<<31)<<16 ^ d.below(1<<31) }

func (d *dice) kind() int { return 1 + d.below(6) }

func (d *dice) aType() api.Type {
	switch d.below(8) {
	case 0:
		return timer
	case 1:
		return counter
	case 2:
		return array(d.kind(), 1+d.below(8))
	case 3:
		x := record()
		for i := range 1 + d.below(6) {
			x.Fields = append(x.Fields, field("fieldno"[:1+d.below(7)]+strconv.Itoa(i), d.kind()))
		}
		return x
	}
	return api.Type{Kind: d.kind()}
}

// kindOf is the kind of a type's cell.
func kindOf(x api.Type, at int) int {
	switch {
	case x.Kind == api.Array:
		return x.Elem
	case x.Kind > api.Array:
		return kinds.Fields(x)[at].Kind
	}
	return x.Kind
}

// program is one that may be; seldom one of about as many bytes as there may be, or too many.
func (d *dice) program() api.Image {
	if d.below(100) == 0 {
		return sized(985 + d.below(30))
	}
	var m api.Image
	for i := range d.below(9) {
		s := api.Sym{Name: "variable"[:1+d.below(8)] + strconv.Itoa(i), Type: d.aType(), Retain: d.below(3) == 0}
		for k := range kinds.Size(s.Type) {
			s.Init = append(s.Init, kinds.Wrap(kindOf(s.Type, k), d.number()))
		}
		m.Syms = append(m.Syms, s)
	}
	for range d.below(17) {
		m.Consts = append(m.Consts, int(int32(d.number())))
	}
	for range 1 + d.below(4) {
		f := make([]byte, d.below(1+d.below(121)))
		for i := range f {
			f[i] = byte(d.below(256))
		}
		m.Funcs = append(m.Funcs, f)
	}
	return m
}

// TestP903WrittenIsRead writes any program that may be, and reads it.
func TestP903WrittenIsRead(t *testing.T) {
	d := dice(903)
	written := 0
	for range 20000 {
		m := d.program()
		b, e := image.Bytes(m)
		if e != api.OK {
			continue
		}
		written++
		back, e := image.Parse(b)
		if e != api.OK || !image.Same(back, m) || told(back) != told(m) || !bytes.Equal(b, spelled(m)) {
			t.Fatalf("%s, %v, and not %s", told(back), e, told(m))
		}
	}
	if written < 10000 {
		t.Errorf("%d programs", written)
	}
}

// eye reads bytes apart from the program: an error is a panic.
type eye struct{ left []byte }

func (y *eye) take(n int) []byte {
	y.ask(len(y.left) >= n, api.ErrCut)
	b := y.left[:n]
	y.left = y.left[n:]
	return b
}

func (y *eye) ask(good bool, e api.Errno) {
	if !good {
		panic(e)
	}
}

func (y *eye) octet() int { return int(y.take(1)[0]) }

func (y *eye) number() int { return int(binary.LittleEndian.Uint64(y.take(8))) }

func (y *eye) text() string { return string(y.take(int(binary.LittleEndian.Uint16(y.take(2))))) }

func (y *eye) count(most int) int {
	n := y.octet()
	y.ask(n <= most, api.ErrMany)
	return n
}

func (y *eye) sym() api.Sym {
	var s api.Sym
	s.Name = y.text()
	s.Type.Kind, s.Type.Elem, s.Type.N = y.octet(), y.octet(), y.octet()
	for range y.count(6) {
		name := y.text()
		s.Type.Fields = append(s.Type.Fields, field(name, y.octet()))
	}
	e := kinds.Check(s.Type)
	y.ask(e == api.OK, e)
	retain := y.octet()
	y.ask(retain < 2, api.ErrBad)
	s.Retain = retain == 1
	for range kinds.Size(s.Type) {
		s.Init = append(s.Init, y.number())
	}
	return s
}

// expected is what Parse should answer, worked out apart from the program but for Check.
func expected(b []byte) (m api.Image, e api.Errno) {
	defer func() {
		if x, ok := recover().(api.Errno); ok {
			m, e = api.Image{}, x
		}
	}()
	y := &eye{b}
	y.ask(len(b) <= 1000, api.ErrLong)
	y.ask(y.text() == "SOL", api.ErrKind)
	for range y.count(12) {
		m.Syms = append(m.Syms, y.sym())
	}
	for range y.count(16) {
		m.Consts = append(m.Consts, y.number())
	}
	for range y.count(4) {
		m.Funcs = append(m.Funcs, []byte(y.text()))
	}
	y.ask(len(y.left) == 0, api.ErrMore)
	e = image.Check(m)
	y.ask(e == api.OK, e)
	return m, api.OK
}

// damaged is bytes with a few changes.
func (d *dice) damaged(b []byte) []byte {
	for range 1 + d.below(3) {
		if len(b) == 0 {
			return b
		}
		at := d.below(len(b))
		switch d.below(8) {
		case 0:
			b = b[:at]
		case 1:
			b = and(b, byte(d.below(256)))
		case 2:
			b = append(and(b[:at]), b[at+1:]...)
		case 3:
			b = append(and(b[:at], byte(d.below(256))), b[at:]...)
		default:
			b = and(b)
			b[at] = byte([]int{0, 1, 2, 7, 255, d.below(256), int(b[at]) + 1, int(b[at]) - 1}[d.below(8)])
		}
	}
	return b
}

// TestP902OfAnyBytes reads what was damaged; what is read nevertheless is written as it stood.
func TestP902OfAnyBytes(t *testing.T) {
	d := dice(902)
	met := map[api.Errno]int{}
	for range 60000 {
		b := d.damaged(spelled(d.program()))
		want, fault := expected(b)
		m, e := image.Parse(b)
		met[e]++
		if e != fault || told(m) != told(want) {
			t.Fatalf("%q: %s, %v, and not %s, %v", b, told(m), e, told(want), fault)
		}
		if e != api.OK {
			continue
		}
		if back, e := image.Bytes(m); e != api.OK || !bytes.Equal(back, b) {
			t.Fatalf("P903: %x, %v, and not %x", back, e, b)
		}
	}
	for _, e := range []api.Errno{api.OK, api.ErrLong, api.ErrCut, api.ErrKind, api.ErrMany, api.ErrBad, api.ErrArg, api.ErrName, api.ErrMore, api.ErrOver} {
		if met[e] < 50 {
			t.Errorf("%v: %d times", e, met[e])
		}
	}
}

// TestP902SameOfMany holds any two programs against each other.
func TestP902SameOfMany(t *testing.T) {
	d := dice(92)
	for range 3000 {
		a, b := d.program(), d.program()
		if image.Same(a, b) != (told(a) == told(b)) || !image.Same(a, a) {
			t.Fatalf("%s, and %s", told(a), told(b))
		}
	}
	a, b := whole(), whole()
	a.Consts[0], b.Consts[0] = math.MinInt, math.MinInt
	if !image.Same(a, b) {
		t.Error("programs that may not be, and are the same")
	}
}
