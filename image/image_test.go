package image_test

import (
	"bytes"
	"encoding/binary"
	"fmt"
	"math"
	"slices"
	"strconv"
	"strings"
	"testing"

	"solenoid/api"
	"solenoid/image"
	"solenoid/layout"
)

var (
	timer   = api.Type{Kind: api.Ton}
	counter = api.Type{Kind: api.Ctu}
)

// of is a variable; its cells begin with these values.
func of(name string, t api.Type, init ...int) api.Sym {
	return api.Sym{Name: name, Type: t, Init: init}
}

func plain(name string, kind, init int) api.Sym { return of(name, api.Type{Kind: kind}, init) }

func kept(s api.Sym) api.Sym {
	s.Retain = true
	return s
}

func array(elem, n int) api.Type { return api.Type{Kind: api.Array, Elem: elem, N: n} }

func field(name string, kind int) api.Field { return api.Field{Name: name, Kind: kind} }

func record(l ...api.Field) api.Type { return api.Type{Kind: api.Struct, Fields: l} }

// code is functions of so many bytes.
func code(l ...int) [][]byte {
	f := make([][]byte, len(l))
	for i, n := range l {
		f[i] = bytes.Repeat([]byte{byte(i + 1)}, n)
	}
	return f
}

// least is the least program there may be.
func least() api.Image { return api.Image{Funcs: code(0)} }

// with is the least program with these variables.
func with(l ...api.Sym) api.Image { return api.Image{Syms: l, Funcs: code(0)} }

// whole is a program with one variable of each form, and with constants and functions of several lengths.
func whole() api.Image {
	return api.Image{
		Syms: []api.Sym{
			plain("b", api.Bool, 1),
			kept(plain("n", api.Int, -3)),
			kept(of("a", array(api.Byte, 3), 1, 2, 255)),
			of("s", record(field("x", api.Word), field("yy", api.Time), field("abcdefgh", api.Bool)), 65535, math.MinInt, 0),
			kept(of("t", timer, 1, -9, 0, 7, -7, 1)),
			of("counter00012", counter, 0, 1, -1, 1, 9, 0),
		},
		Consts: []int{-1, math.MaxInt32, math.MinInt32, 0},
		Funcs:  code(1, 0, 120),
	}
}

// spelled is a program's bytes, written apart from the program, whatever it is.
func spelled(m api.Image) []byte {
	b := said(nil, "SOL")
	b = append(b, byte(len(m.Syms)))
	for _, s := range m.Syms {
		b = append(said(b, s.Name), byte(s.Type.Kind), byte(s.Type.Elem), byte(s.Type.N), byte(len(s.Type.Fields)))
		for _, f := range s.Type.Fields {
			b = append(said(b, f.Name), byte(f.Kind))
		}
		retain := map[bool]byte{true: 1}
		b = append(b, retain[s.Retain])
		for _, n := range s.Init {
			b = binary.LittleEndian.AppendUint64(b, uint64(n))
		}
	}
	b = append(b, byte(len(m.Consts)))
	for _, n := range m.Consts {
		b = binary.LittleEndian.AppendUint64(b, uint64(n))
	}
	b = append(b, byte(len(m.Funcs)))
	for _, f := range m.Funcs {
		b = said(b, string(f))
	}
	return b
}

func said(b []byte, s string) []byte {
	return append(binary.LittleEndian.AppendUint16(b, uint16(len(s))), s...)
}

// told is a program as a text in which no two unlike ones are the same, but for lists that are nil or empty.
func told(m api.Image) string { return fmt.Sprintf("%q", fmt.Sprintf("%+v", m)) }

// short is a text cut where it is too long for a line.
func short(s string) string { return s[:min(len(s), 400)] }

// checks asks Check, and Bytes, which answers the same error, for an answer.
func checks(t *testing.T, what string, want api.Errno, m api.Image) {
	t.Helper()
	if got := image.Check(m); got != want {
		t.Errorf("%s: Check: %v, and not %v: %s", what, got, want, short(told(m)))
	}
	b, e := image.Bytes(m)
	if want == api.OK && len(spelled(m)) > 1000 {
		want = api.ErrLong
	}
	if e != want || e != api.OK && b != nil {
		t.Errorf("%s: Bytes: %d bytes, %v, and not %v: %s", what, len(b), e, want, short(told(m)))
	}
}

// parses asks Parse for a program.
func parses(t *testing.T, what string, b []byte, want api.Image) {
	t.Helper()
	if m, e := image.Parse(b); e != api.OK || told(m) != told(want) {
		t.Errorf("%s: %s, %v, and not %s", what, short(told(m)), e, short(told(want)))
	}
}

// fails asks Parse for an error.
func fails(t *testing.T, what string, want api.Errno, b []byte) {
	t.Helper()
	m, e := image.Parse(b)
	if e != want || m.Syms != nil || m.Consts != nil || m.Funcs != nil {
		t.Errorf("%s: %s, %v, and not %v: %q", what, short(told(m)), e, want, short(string(b)))
	}
}

func TestP901Sound(t *testing.T) {
	checks(t, "the least", api.OK, least())
	checks(t, "all of it", api.OK, whole())
	checks(t, "empty lists", api.OK, api.Image{Syms: []api.Sym{}, Consts: []int{}, Funcs: [][]byte{{}}})
}

func TestP901Variables(t *testing.T) {
	for _, x := range []struct {
		want api.Errno
		l    []api.Sym
	}{
		{api.ErrMany, make([]api.Sym, 13)},
		{api.ErrName, []api.Sym{plain("A", api.Int, 0)}},
		{api.ErrName, []api.Sym{plain("a", api.Int, 0), plain("a", api.Int, 0)}},
		{api.ErrKind, []api.Sym{plain("a", 11, 0)}},
		{api.ErrArg, []api.Sym{of("a", api.Type{Kind: api.Int, N: 1}, 0)}},
		{api.ErrArg, []api.Sym{of("a", api.Type{Kind: api.Int})}},
		{api.ErrOver, []api.Sym{plain("a", api.Bool, 2)}},
		{api.ErrMany, []api.Sym{kept(of("a", array(api.Byte, 25), make([]int, 25)...))}},
	} {
		checks(t, "variables", x.want, with(x.l...))
		m := whole()
		m.Syms = x.l
		checks(t, "variables, the rest as it may be", x.want, m)
		m.Consts, m.Funcs = make([]int, 17), nil
		checks(t, "variables ahead of the rest", x.want, m)
	}
}

func TestP901Constants(t *testing.T) {
	for n := range 40 {
		m := whole()
		m.Syms = nil
		m.Consts = make([]int, n)
		want := api.OK
		if n > 16 {
			want = api.ErrMany
		}
		checks(t, "so many constants", want, m)
	}
	for _, n := range []int{math.MaxInt32, math.MinInt32, 0, -1, 65536} {
		m := least()
		m.Consts = []int{7, n}
		checks(t, "a constant", api.OK, m)
	}
	for _, n := range []int{math.MaxInt32 + 1, math.MinInt32 - 1, math.MaxInt, math.MinInt, 1 << 32, -1 << 32, 1<<32 - 1} {
		for at := range 16 {
			m := least()
			m.Consts = make([]int, 16)
			m.Consts[at] = n
			checks(t, "no constant", api.ErrOver, m)
			m.Consts = append(m.Consts, 0)
			checks(t, "too many, ahead of no constant", api.ErrMany, m)
		}
	}
}

func TestP901Functions(t *testing.T) {
	for n := range 20 {
		m := least()
		m.Funcs = make([][]byte, n)
		want := api.OK
		if n < 1 || n > 4 {
			want = api.ErrMany
		}
		checks(t, "so many functions", want, m)
	}
	for n := range 200 {
		want := api.OK
		if n > 120 {
			want = api.ErrLong
		}
		for at := range 4 {
			m := least()
			m.Funcs = make([][]byte, 4)
			m.Funcs[at] = make([]byte, n)
			checks(t, "a function of so many bytes", want, m)
			if at == 0 {
				m.Funcs = m.Funcs[:1]
				checks(t, "the one function, of so many bytes", want, m)
			}
		}
	}
	checks(t, "a very long one", api.ErrLong, api.Image{Funcs: code(1 << 16)})
	checks(t, "too many, ahead of too long", api.ErrMany, api.Image{Funcs: code(121, 0, 0, 0, 0)})
	checks(t, "very many", api.ErrMany, api.Image{Funcs: make([][]byte, 100000)})
}

func TestP901InOrder(t *testing.T) {
	checks(t, "too many constants, ahead of no function", api.ErrMany, api.Image{Consts: make([]int, 17)})
	checks(t, "no constant, ahead of no function", api.ErrOver, api.Image{Consts: []int{1 << 31}})
	checks(t, "no constant, ahead of too many functions", api.ErrOver, api.Image{Consts: []int{1 << 31}, Funcs: code(0, 0, 0, 0, 0)})
	checks(t, "no constant, ahead of a long function", api.ErrOver, api.Image{Consts: []int{1 << 31}, Funcs: code(121)})
	checks(t, "a variable, ahead of no constant", api.ErrName, api.Image{Syms: make([]api.Sym, 1), Consts: []int{1 << 31}})
	checks(t, "nothing", api.ErrMany, api.Image{})
}

func TestP902Bytes(t *testing.T) {
	for _, x := range []struct {
		m    api.Image
		want string
	}{
		{least(), "\x03\x00SOL\x00\x00\x01\x00\x00"},
		{api.Image{Consts: []int{-2, 258}, Funcs: [][]byte{{7, 255}, nil}}, "\x03\x00SOL\x00\x02\xfe\xff\xff\xff\xff\xff\xff\xff\x02\x01\x00\x00\x00\x00\x00\x00\x02\x02\x00\x07\xff\x00\x00"},
		{with(plain("ab", api.Int, -1)), "\x03\x00SOL\x01\x02\x00ab\x04\x00\x00\x00\x00\xff\xff\xff\xff\xff\xff\xff\xff\x00\x01\x00\x00"},
		{with(kept(plain("ab", api.Time, 1))), "\x03\x00SOL\x01\x02\x00ab\x06\x00\x00\x00\x01\x01\x00\x00\x00\x00\x00\x00\x00\x00\x01\x00\x00"},
		{with(of("a", array(api.Byte, 2), 3, 4)), "\x03\x00SOL\x01\x01\x00a\x07\x02\x02\x00\x00\x03\x00\x00\x00\x00\x00\x00\x00\x04\x00\x00\x00\x00\x00\x00\x00\x00\x01\x00\x00"},
		{with(of("a", record(field("x", 1), field("yz", 3)), 1, 9)), "\x03\x00SOL\x01\x01\x00a\x08\x00\x00\x02\x01\x00x\x01\x02\x00yz\x03\x00\x01\x00\x00\x00\x00\x00\x00\x00\x09\x00\x00\x00\x00\x00\x00\x00\x00\x01\x00\x00"},
		{with(of("t", timer, make([]int, 6)...)), "\x03\x00SOL\x01\x01\x00t\x09\x00\x00\x00\x00" + strings.Repeat("\x00", 48) + "\x00\x01\x00\x00"},
	} {
		if b, e := image.Bytes(x.m); e != api.OK || string(b) != x.want {
			t.Errorf("Bytes of %s: %x, %v, and not %x", told(x.m), b, e, x.want)
		}
		parses(t, "Parse of what was written by hand", []byte(x.want), x.m)
	}
	if b, e := image.Bytes(whole()); e != api.OK || !bytes.Equal(b, spelled(whole())) {
		t.Errorf("all of it: %x, %v, and not %x", b, e, spelled(whole()))
	}
}

// sized is a program of n bytes: two long arrays (548 bytes with all that is told of them), and functions that fill it up.
func sized(n int) api.Image {
	m := with(of("a", array(api.Bool, 32), make([]int, 32)...), of("b", array(api.Time, 32), make([]int, 32)...))
	m.Funcs = code(0, 0, 0, 0)
	n -= len(spelled(m))
	for i := range m.Funcs {
		k := min(n, 120)
		m.Funcs[i] = make([]byte, k)
		n -= k
	}
	return m
}

func TestP902HowLong(t *testing.T) {
	for n := 980; n <= 1010; n++ {
		m := sized(n)
		if len(spelled(m)) != n {
			t.Fatalf("a program of %d bytes has %d", n, len(spelled(m)))
		}
		b, e := image.Bytes(m)
		if n <= 1000 {
			if e != api.OK || len(b) != n {
				t.Errorf("%d bytes: %d, %v", n, len(b), e)
			}
			parses(t, "so many bytes", b, m)
			continue
		}
		if e != api.ErrLong || b != nil || image.Check(m) != api.OK {
			t.Errorf("%d bytes: %d, %v", n, len(b), e)
		}
		fails(t, "too many bytes", api.ErrLong, spelled(m))
	}
	for _, n := range []int{1001, 1002, 1 << 16, 1 << 20} {
		fails(t, "very many bytes", api.ErrLong, make([]byte, n))
		fails(t, "very many bytes behind a program", api.ErrLong, append(spelled(least()), make([]byte, n)...))
	}
	fails(t, "1000 bytes", api.ErrKind, make([]byte, 1000))
	fails(t, "1000 bytes", api.ErrMore, append(spelled(least()), make([]byte, 990)...))
}

func TestP902Mark(t *testing.T) {
	behind := spelled(least())[5:]
	for _, s := range []string{"", "S", "SO", "sol", "SOl", "SOX", "XOL", "SOLE", " SOL", "SOL\x00", "LOS"} {
		fails(t, "another mark", api.ErrKind, append(said(nil, s), behind...))
		fails(t, "another mark, and no more", api.ErrKind, said(nil, s))
		fails(t, "another mark, ahead of a count", api.ErrKind, append(said(nil, s), 13))
	}
	fails(t, "nothing", api.ErrCut, nil)
	fails(t, "nothing", api.ErrCut, []byte{})
	fails(t, "a mark that is cut", api.ErrCut, []byte("\x03\x00SO"))
	fails(t, "a mark that would be another one", api.ErrCut, []byte("\x04\x00SOX"))
	fails(t, "the mark alone", api.ErrCut, said(nil, "SOL"))
}

func TestP902Cut(t *testing.T) {
	b := spelled(whole())
	for n := range b {
		fails(t, "cut at "+strconv.Itoa(n), api.ErrCut, b[:n])
	}
	for n := range 20 {
		fails(t, "with more behind it", api.ErrMore, append(slices.Clone(b), make([]byte, n+1)...))
	}
}

// start is the beginning of a program of one variable, up to its Fields' count.
func start(kind, elem, n, fields int) []byte {
	b := append(said(nil, "SOL"), 1)
	return append(said(b, "a"), byte(kind), byte(elem), byte(n), byte(fields))
}

// and is bytes with more behind them.
func and(b []byte, more ...byte) []byte { return append(slices.Clone(b), more...) }

func TestP902HowMany(t *testing.T) {
	head := said(nil, "SOL")
	for _, x := range []struct {
		what string
		b    []byte
		most int
	}{
		{"variables", head, 12},
		{"fields", start(8, 0, 0, 0)[:12], 6},
		{"constants", and(head, 0), 16},
		{"functions", and(head, 0, 0), 4},
	} {
		for n := range 256 {
			b := and(x.b, byte(n))
			switch {
			case n > x.most:
				fails(t, x.what, api.ErrMany, b)
				fails(t, x.what+", with more behind", api.ErrMany, and(b, make([]byte, 900)...))
			case n > 0:
				fails(t, x.what, api.ErrCut, b)
			}
		}
	}
	fails(t, "no functions", api.ErrMany, and(head, 0, 0, 0))
	fails(t, "no functions, and more", api.ErrMore, and(head, 0, 0, 0, 0))
	fails(t, "no fields of a struct", api.ErrArg, start(8, 0, 0, 0))
}

func TestP902Retain(t *testing.T) {
	for n := 2; n < 256; n++ {
		fails(t, "Retain", api.ErrBad, and(start(4, 0, 0, 0), byte(n)))
		fails(t, "Retain, with more behind", api.ErrBad, and(and(start(4, 0, 0, 0), byte(n)), make([]byte, 30)...))
	}
	for n, is := range []bool{false, true} {
		want := with(plain("a", api.Int, 0))
		want.Syms[0].Retain = is
		parses(t, "Retain", and(start(4, 0, 0, 0), append([]byte{byte(n)}, "\x00\x00\x00\x00\x00\x00\x00\x00\x00\x01\x00\x00"...)...), want)
	}
}

func TestP902Type(t *testing.T) {
	for _, x := range []struct {
		what string
		want api.Errno
		b    []byte
	}{
		{"no kind", api.ErrKind, start(0, 0, 0, 0)},
		{"no kind", api.ErrKind, start(11, 0, 0, 0)},
		{"no kind", api.ErrKind, start(255, 9, 9, 0)},
		{"an element", api.ErrArg, start(4, 1, 0, 0)},
		{"a count", api.ErrArg, start(4, 0, 1, 0)},
		{"fields", api.ErrArg, and(start(4, 0, 0, 1), 1, 0, 'x', 1)},
		{"a timer's fields", api.ErrArg, and(start(9, 0, 0, 1), 1, 0, 'x', 1)},
		{"an array of no kind", api.ErrKind, start(7, 0, 3, 0)},
		{"an array of arrays", api.ErrKind, start(7, 7, 3, 0)},
		{"an array of none", api.ErrArg, start(7, 1, 0, 0)},
		{"an array of 33", api.ErrArg, start(7, 1, 33, 0)},
		{"an array of 255", api.ErrArg, start(7, 1, 255, 0)},
		{"a field's name", api.ErrName, and(start(8, 0, 0, 1), 1, 0, 'X', 1)},
		{"a field's kind", api.ErrKind, and(start(8, 0, 0, 1), 1, 0, 'x', 7)},
		{"a name that is there", api.ErrName, and(start(8, 0, 0, 2), 1, 0, 'x', 1, 1, 0, 'x', 1)},
	} {
		fails(t, x.what, x.want, x.b)
		fails(t, x.what+", ahead of Retain", x.want, and(x.b, 2))
		fails(t, x.what+", ahead of what is behind", x.want, and(x.b, make([]byte, 300)...))
	}
	fails(t, "it is read whole", api.ErrCut, start(11, 0, 0, 0)[:12])
	fails(t, "its fields are read", api.ErrCut, start(11, 0, 0, 1))
	fails(t, "its fields are read", api.ErrCut, and(start(8, 0, 0, 2), 1, 0, 'X', 1))
	fails(t, "how many fields, ahead of the kind", api.ErrMany, start(11, 0, 0, 7))
}

// TestP902HowManyInits asks whether as many values are read as the type has cells: of one lacking the end is met, and one more is something else.
func TestP902HowManyInits(t *testing.T) {
	types := []api.Type{timer, counter, record(field("x", 1)), record(field("x", 1), field("y", 2), field("z", 3), field("u", 4), field("v", 5), field("w", 6))}
	for kind := api.Bool; kind <= api.Time; kind++ {
		types = append(types, api.Type{Kind: kind})
	}
	for n := 1; n <= 32; n++ {
		types = append(types, array(api.Word, n))
	}
	for _, x := range types {
		n := len(layout.Cells([]api.Sym{of("a", x)}))
		m := with(of("a", x, make([]int, n)...))
		parses(t, "as many", spelled(m), m)
		m.Syms[0].Init = make([]int, n-1)
		fails(t, "one lacks", api.ErrCut, spelled(m)) // as only four bytes are behind it
		m.Syms[0].Init = make([]int, n+1)
		fails(t, "one more", api.ErrMore, spelled(m)) // which is read as no constants and no functions
	}
}

func TestP902ChecksError(t *testing.T) {
	for _, x := range []struct {
		what string
		want api.Errno
		f    func(m *api.Image)
	}{
		{"a name", api.ErrName, func(m *api.Image) { m.Syms[0].Name = "B" }},
		{"no name", api.ErrName, func(m *api.Image) { m.Syms[0].Name = "" }},
		{"a name that is there", api.ErrName, func(m *api.Image) { m.Syms[5].Name = "b" }},
		{"a long name", api.ErrName, func(m *api.Image) { m.Syms[5].Name += "3" }},
		{"a value", api.ErrOver, func(m *api.Image) { m.Syms[0].Init[0] = 2 }},
		{"a value of an array", api.ErrOver, func(m *api.Image) { m.Syms[2].Init[2] = 256 }},
		{"cells", api.ErrMany, func(m *api.Image) {
			m.Syms = []api.Sym{of("a", array(1, 32), make([]int, 32)...), of("b", array(1, 32), make([]int, 32)...), plain("c", 1, 0)}
			m.Funcs[2] = nil
		}},
		{"kept cells", api.ErrMany, func(m *api.Image) { m.Syms = []api.Sym{kept(of("a", array(1, 25), make([]int, 25)...))} }},
		{"a constant", api.ErrOver, func(m *api.Image) { m.Consts[1]++ }},
		{"a constant", api.ErrOver, func(m *api.Image) { m.Consts[2]-- }},
		{"no function", api.ErrMany, func(m *api.Image) { m.Funcs = nil }},
		{"a long function", api.ErrLong, func(m *api.Image) { m.Funcs[2] = make([]byte, 121) }},
	} {
		m := whole()
		x.f(&m)
		b := spelled(m)
		if len(b) > 1000 {
			t.Fatalf("%s: %d bytes", x.what, len(b))
		}
		fails(t, x.what, x.want, b)
		fails(t, x.what+", with more behind", api.ErrMore, and(b, 0))
		fails(t, x.what+", cut", api.ErrCut, b[:len(b)-1])
		checks(t, x.what, x.want, m)
	}
	m := whole()
	m.Syms[0].Init[0], m.Syms[1].Name, m.Consts[0], m.Funcs = 2, "N", 1<<40, nil
	fails(t, "the first one of Check's", api.ErrOver, spelled(m))
}

// changes are ways in which a program may be another one than whole.
func changes() []func(m *api.Image) {
	l := []func(m *api.Image){
		func(m *api.Image) { m.Syms = nil },
		func(m *api.Image) { m.Syms = m.Syms[:5] },
		func(m *api.Image) { m.Syms = append(m.Syms, plain("z", 1, 0)) },
		func(m *api.Image) { m.Syms[0], m.Syms[1] = m.Syms[1], m.Syms[0] },
		func(m *api.Image) { m.Syms[3].Type.Fields = m.Syms[3].Type.Fields[:2] },
		func(m *api.Image) { m.Syms[3].Type.Fields[1].Name = "yz" },
		func(m *api.Image) { m.Syms[3].Type.Fields[1].Kind-- },
		func(m *api.Image) { m.Syms[0].Type.Fields = []api.Field{{}} },
		func(m *api.Image) { m.Consts = nil },
		func(m *api.Image) { m.Consts = m.Consts[:3] },
		func(m *api.Image) { m.Consts = append(m.Consts, 0) },
		func(m *api.Image) { m.Consts[0], m.Consts[1] = m.Consts[1], m.Consts[0] },
		func(m *api.Image) { m.Funcs = nil },
		func(m *api.Image) { m.Funcs = m.Funcs[:2] },
		func(m *api.Image) { m.Funcs = append(m.Funcs, nil) },
		func(m *api.Image) { m.Funcs[0], m.Funcs[1] = m.Funcs[1], m.Funcs[0] },
		func(m *api.Image) { m.Funcs[2] = m.Funcs[2][:119] },
		func(m *api.Image) { m.Funcs[2][119]++ },
		func(m *api.Image) { m.Funcs[1] = []byte{0} },
	}
	for i := range whole().Syms {
		l = append(l,
			func(m *api.Image) { m.Syms[i].Name += "x" },
			func(m *api.Image) { m.Syms[i].Type.Kind++ },
			func(m *api.Image) { m.Syms[i].Type.Elem++ },
			func(m *api.Image) { m.Syms[i].Type.N-- },
			func(m *api.Image) { m.Syms[i].Retain = !m.Syms[i].Retain },
			func(m *api.Image) { m.Syms[i].Init = nil },
			func(m *api.Image) { m.Syms[i].Init = append(m.Syms[i].Init, 0) })
		for k := range whole().Syms[i].Init {
			l = append(l, func(m *api.Image) { m.Syms[i].Init[k]++ })
		}
	}
	for i := range whole().Consts {
		l = append(l, func(m *api.Image) { m.Consts[i] += 1 << 32 })
	}
	return l
}

func TestP902Same(t *testing.T) {
	if !image.Same(whole(), whole()) || !image.Same(api.Image{}, api.Image{}) {
		t.Error("the same programs")
	}
	for i, f := range changes() {
		m := whole()
		f(&m)
		if image.Same(m, whole()) || image.Same(whole(), m) {
			t.Errorf("%d: another program: %s", i, told(m))
		}
		if !image.Same(m, m) {
			t.Errorf("%d: itself, which may not be: %s", i, told(m))
		}
	}
}

func TestP902SameOfNilAndEmpty(t *testing.T) {
	a := with(of("a", record()))
	a.Syms[0].Init = nil
	b := with(of("a", api.Type{Kind: api.Struct, Fields: []api.Field{}}))
	b.Syms[0].Init, b.Consts, b.Funcs = []int{}, []int{}, [][]byte{nil}
	if !image.Same(a, b) || !image.Same(b, a) {
		t.Error("P2: nil and empty lists")
	}
	if !image.Same(api.Image{}, api.Image{Syms: []api.Sym{}, Consts: []int{}, Funcs: [][]byte{}}) {
		t.Error("P2: nothing, nil and empty")
	}
	if image.Same(api.Image{}, least()) || image.Same(api.Image{}, api.Image{Consts: []int{0}}) || image.Same(api.Image{}, api.Image{Syms: make([]api.Sym, 1)}) {
		t.Error("nothing, and one that has zero values")
	}
}

// spoil overwrites a list and its spare room.
func spoil[E any](l []E, by E) {
	l = l[:cap(l)]
	for i := range l {
		l[i] = by
	}
}

// spoilAll overwrites all lists of a program, the inner ones first.
func spoilAll(m api.Image) {
	for _, s := range m.Syms {
		spoil(s.Init, 77)
		spoil(s.Type.Fields, field("spoilt", 99))
	}
	for _, f := range m.Funcs {
		spoil(f, 0x55)
	}
	spoil(m.Syms, plain("spoilt", 99, 99))
	spoil(m.Consts, 77)
	spoil(m.Funcs, []byte("spoilt"))
}

func TestP2BytesAreNew(t *testing.T) {
	m := roomy(whole())
	was := told(m)
	x, _ := image.Bytes(m)
	y, _ := image.Bytes(m)
	spoil(x, 0x55)
	if told(m) != was || !bytes.Equal(y, spelled(whole())) {
		t.Errorf("Bytes shares what it answers: %x", y)
	}
	spoilAll(m)
	if !bytes.Equal(y, spelled(whole())) {
		t.Errorf("Bytes keeps what it was handed: %x", y)
	}
}

func TestP2ParsedIsNew(t *testing.T) {
	room := append(spelled(whole()), bytes.Repeat([]byte{'r'}, 64)...)
	was := slices.Clone(room)
	b := room[:len(room)-64]
	x, _ := image.Parse(b)
	y, _ := image.Parse(b)
	spoilAll(x)
	if !bytes.Equal(room, was) || told(y) != told(whole()) {
		t.Errorf("Parse shares what it answers: %s", told(y))
	}
	spoil(room, 0x55)
	if told(y) != told(whole()) {
		t.Errorf("Parse keeps what it was handed: %s", told(y))
	}
}

// TestP2ListsOfOneAnswer overwrites one list after the other, and asks whether it is seen in another one.
func TestP2ListsOfOneAnswer(t *testing.T) {
	lists := len(whole().Syms)*2 + len(whole().Funcs) + 1
	for at := range lists {
		m, _ := image.Parse(spelled(whole()))
		want := whole()
		for _, x := range []*api.Image{&m, &want} {
			switch n := len(x.Syms); {
			case at < n:
				spoil(x.Syms[at].Init, 77)
			case at < 2*n:
				spoil(x.Syms[at-n].Type.Fields, field("spoilt", 99))
			case at < lists-1:
				spoil(x.Funcs[at-2*n], 0x55)
			default:
				spoil(x.Consts, 77)
			}
		}
		if told(m) != told(want) {
			t.Errorf("list %d: %s", at, told(m))
		}
	}
}

// roomy is the same program, its lists with spare room that tells of a change.
func roomy(m api.Image) api.Image {
	m.Syms = append(slices.Clone(m.Syms), plain("room", 99, 99))[:len(m.Syms)]
	for i, s := range m.Syms {
		m.Syms[i].Init = append(slices.Clone(s.Init), 99)[:len(s.Init)]
		m.Syms[i].Type.Fields = append(slices.Clone(s.Type.Fields), field("room", 99))[:len(s.Type.Fields)]
	}
	m.Consts = append(slices.Clone(m.Consts), 99)[:len(m.Consts)]
	m.Funcs = append(slices.Clone(m.Funcs), []byte("room"))[:len(m.Funcs)]
	for i, f := range m.Funcs {
		m.Funcs[i] = append(slices.Clone(f), 'r')[:len(f)]
	}
	return m
}

// full is a program with its spare room as part of it.
func full(m api.Image) api.Image {
	m.Syms = slices.Clone(m.Syms[:cap(m.Syms)])
	for i, s := range m.Syms {
		m.Syms[i].Init = s.Init[:cap(s.Init)]
		m.Syms[i].Type.Fields = s.Type.Fields[:cap(s.Type.Fields)]
	}
	m.Consts = m.Consts[:cap(m.Consts)]
	m.Funcs = slices.Clone(m.Funcs[:cap(m.Funcs)])
	for i, f := range m.Funcs {
		m.Funcs[i] = f[:cap(f)]
	}
	return m
}

func TestP2NothingIsChanged(t *testing.T) {
	for i, f := range append(changes(), func(*api.Image) {}) {
		m := whole()
		f(&m)
		m = roomy(m)
		was := told(full(m))
		image.Check(m)
		image.Bytes(m)
		image.Same(m, whole())
		image.Same(whole(), m)
		if told(full(m)) != was {
			t.Errorf("%d: %s, and not %s", i, told(full(m)), was)
		}
	}
}

// TestP8AnyProgram hands in what may not be.
func TestP8AnyProgram(t *testing.T) {
	odd := []int{0, -1, 1, 7, 8, 255, 256, 1 << 40, math.MaxInt, math.MinInt}
	for _, kind := range odd {
		for _, n := range odd {
			m := api.Image{Syms: []api.Sym{{Name: strings.Repeat("a", 70000), Type: api.Type{Kind: kind, Elem: n, N: n, Fields: make([]api.Field, 300)}}}, Consts: odd, Funcs: make([][]byte, 300)}
			if e := image.Check(m); e != api.ErrName {
				t.Errorf("%v", e)
			}
			m.Syms[0].Name = "a"
			if b, e := image.Bytes(m); b != nil || e == api.OK || e != image.Check(m) {
				t.Errorf("%d bytes, %v", len(b), e)
			}
			if !image.Same(m, m) || image.Same(m, whole()) {
				t.Error("Same")
			}
		}
	}
}
