package layout_test

import (
	"fmt"
	"math"
	"slices"
	"strconv"
	"strings"
	"testing"

	"solenoid/api"
	"solenoid/kinds"
	"solenoid/layout"
)

var values = []int{api.Bool, api.Byte, api.Word, api.Int, api.Dint, api.Time}

// noKinds are numbers of no kind, of values or of variables.
var noKinds = []int{0, -1, 11, 256, 1<<32 + 1, math.MaxInt, math.MinInt}

// twelve are names, as many as there may be.
var twelve = []string{"a", "b", "c", "d", "e", "f", "g", "h", "i", "j", "k", "l"}

var (
	timer   = api.Type{Kind: api.Ton}
	counter = api.Type{Kind: api.Ctu}
)

// of is a variable; its cells begin with these values.
func of(name string, t api.Type, init ...int) api.Sym {
	return api.Sym{Name: name, Type: t, Init: init}
}

// plain is a variable of a kind of values.
func plain(name string, kind, init int) api.Sym { return of(name, api.Type{Kind: kind}, init) }

// blank is a variable whose cells begin with noughts, as many as it should have.
func blank(name string, t api.Type) api.Sym {
	return of(name, t, make([]int, kinds.Size(t))...)
}

func kept(s api.Sym) api.Sym {
	s.Retain = true
	return s
}

func array(elem, n int) api.Type { return api.Type{Kind: api.Array, Elem: elem, N: n} }

func field(name string, kind int) api.Field { return api.Field{Name: name, Kind: kind} }

func record(l ...api.Field) api.Type { return api.Type{Kind: api.Struct, Fields: l} }

// told is what something is as a line, cut where it is too long for one.
func told(x any) string {
	s := fmt.Sprintf("%+v", x)
	return s[:min(len(s), 300)]
}

// checks asks Check for an answer.
func checks(t *testing.T, what string, want api.Errno, l ...api.Sym) {
	t.Helper()
	if got := layout.Check(l); got != want {
		t.Errorf("%s: %s: %v, and not %v", what, told(l), got, want)
	}
}

// has asks Cells for an answer.
func has(t *testing.T, what string, l []api.Sym, want ...api.Cell) {
	t.Helper()
	if got := layout.Cells(l); !slices.Equal(got, want) {
		t.Errorf("%s: %s: %s, and not %s", what, told(l), told(got), told(want))
	}
}

// finds asks Find for an answer; at below 0: there is none.
func finds(t *testing.T, what string, l []api.Cell, path string, at int) {
	t.Helper()
	got, is := layout.Find(l, path)
	if is != (at >= 0) || got != max(at, 0) {
		t.Errorf("%s: %q: %d, %v, and not %d", what, path, got, is, at)
	}
}

// edge: the least and the greatest value of a kind.
func edge(kind int) (low, high int) {
	switch kind {
	case api.Bool:
		return 0, 1
	case api.Byte:
		return 0, 255
	case api.Word:
		return 0, 65535
	case api.Int:
		return -32768, 32767
	case api.Dint:
		return -2147483648, 2147483647
	}
	return math.MinInt, math.MaxInt
}

func TestP801Sound(t *testing.T) {
	checks(t, "none", api.OK)
	if e := layout.Check([]api.Sym{}); e != api.OK {
		t.Errorf("an empty list: %v", e)
	}
	for _, kind := range values {
		checks(t, "a kind of values", api.OK, plain("a", kind, 1))
		checks(t, "an array", api.OK, blank("a", array(kind, 9)))
		checks(t, "a struct", api.OK, blank("a", record(field("x", kind))))
	}
	checks(t, "a timer, a counter", api.OK, blank("t", timer), blank("c", counter))
	checks(t, "one of each", api.OK, plain("n", api.Int, -3), kept(of("a", array(api.Byte, 3), 1, 2, 255)), of("s", record(field("x", api.Bool), field("y", api.Time)), 1, -5), kept(of("t", timer, 1, -9, 0, 7, -7, 1)), of("c", counter, 0, 1, -1, 1, 9, 0))
}

func TestP801ManyVariables(t *testing.T) {
	var l []api.Sym
	for _, name := range twelve {
		l = append(l, plain(name, api.Int, 0))
		checks(t, "up to 12", api.OK, l...)
	}
	l = append(l, plain("m", api.Int, 0))
	checks(t, "13", api.ErrMany, l...)
	l[0].Name = "A"
	checks(t, "13, ahead of a name", api.ErrMany, l...)
	checks(t, "13 that may not be", api.ErrMany, make([]api.Sym, 13)...)
	checks(t, "12 that may not be", api.ErrName, make([]api.Sym, 12)...)
	checks(t, "very many", api.ErrMany, make([]api.Sym, 100000)...)
}

func TestP801Name(t *testing.T) {
	for _, s := range []string{"a", "z", "m9", "a0", "abcdefghi", "abcdefghijkl", "a12345678901", "zzzzzzzzzzzz", "in", "end"} {
		checks(t, "a name", api.OK, plain(s, api.Int, 0))
		checks(t, "a name, behind another", api.OK, plain("y", api.Int, 0), plain(s, api.Int, 0))
	}
	for _, s := range []string{
		"", "abcdefghijklm", "a123456789012", strings.Repeat("a", 100000), // how long
		"0", "9a", "A", "aB", "IN", "_", "a_", " a", "a ", "a b", "a.b", "a[1]", "a.", "a[", "a\n", "a\x00", "`", "{", "a/", "a:", "\u00e4", "a\u0661", "a\xff",
	} {
		checks(t, "no name", api.ErrName, plain(s, api.Int, 0))
		checks(t, "no name, behind another", api.ErrName, plain("y", api.Int, 0), plain(s, api.Int, 0))
		checks(t, "no name, ahead of another", api.ErrName, plain(s, api.Int, 0), plain("y", api.Int, 0))
	}
}

// TestP801NameOfEachSign asks for each byte, as the first one and as a later one.
func TestP801NameOfEachSign(t *testing.T) {
	for b := range 256 {
		sign := string([]byte{byte(b)})
		first, later := api.ErrName, api.ErrName
		if 'a' <= b && b <= 'z' {
			first, later = api.OK, api.OK
		} else if '0' <= b && b <= '9' {
			later = api.OK
		}
		checks(t, "first", first, plain(sign+"a", api.Int, 0))
		checks(t, "later", later, plain("a"+sign, api.Int, 0))
		checks(t, "the twelfth", later, plain("abcdefghijk"+sign, api.Int, 0))
	}
}

func TestP801NameOfOneAhead(t *testing.T) {
	for i := range twelve {
		for j := range i {
			var l []api.Sym
			for _, name := range twelve[:i] {
				l = append(l, plain(name, api.Int, 0))
			}
			checks(t, "a name that is there", api.ErrName, append(l, plain(twelve[j], api.Bool, 0))...)
		}
	}
	checks(t, "the beginning of another", api.OK, plain("ab", api.Int, 0), plain("a", api.Int, 0), plain("abc", api.Int, 0))
	checks(t, "a field's name", api.OK, blank("a", record(field("b", api.Int))), plain("b", api.Int, 0))
	checks(t, "its own field's name", api.OK, blank("a", record(field("a", api.Int))))
	checks(t, "names are those of one call", api.OK, plain("a", api.Int, 0))
}

func TestP801Type(t *testing.T) {
	for _, kind := range noKinds {
		checks(t, "no kind", api.ErrKind, plain("a", kind, 0))
		checks(t, "an array of no kind", api.ErrKind, of("a", array(kind, 1), 0))
		checks(t, "a field of no kind", api.ErrKind, of("a", record(field("x", kind)), 0))
	}
	for _, n := range []int{0, 33, -1, math.MaxInt, math.MinInt} {
		checks(t, "an array of so many", api.ErrArg, of("a", array(api.Int, n), 0))
	}
	checks(t, "no fields", api.ErrArg, of("a", record()))
	checks(t, "a field's name", api.ErrName, of("a", record(field("X", api.Int)), 0))
	checks(t, "a field's name, too long", api.ErrName, of("a", record(field("abcdefghi", api.Int)), 0))
	checks(t, "two of a name", api.ErrName, of("a", record(field("x", api.Int), field("x", api.Int)), 0, 0))
	checks(t, "a kind of values with an N", api.ErrArg, of("a", api.Type{Kind: api.Int, N: 1}, 0))
	checks(t, "a timer with fields", api.ErrArg, of("a", api.Type{Kind: api.Ton, Fields: []api.Field{field("x", 1)}}, 0, 0, 0, 0, 0, 0))
}

func TestP801ManyCells(t *testing.T) {
	wide := blank("a", array(api.Byte, 32))
	full := []api.Sym{wide, blank("b", array(api.Time, 32))}
	checks(t, "64", api.OK, full...)
	checks(t, "65", api.ErrMany, append(full, plain("c", api.Int, 0))...)
	checks(t, "70", api.ErrMany, append(full, blank("c", timer))...)
	checks(t, "timers and a struct of 4", api.OK, blanks("t", 10, timer, blank("s", record(field("a", 1), field("b", 1), field("c", 1), field("d", 1))))...)
	checks(t, "timers and a struct of 5", api.ErrMany, blanks("t", 10, timer, blank("s", record(field("a", 1), field("b", 1), field("c", 1), field("d", 1), field("e", 1))))...)
	checks(t, "counters", api.ErrMany, blanks("c", 11, counter)...)
	for n := 1; n <= 32; n++ {
		want := api.OK
		if n > 20 {
			want = api.ErrMany
		}
		checks(t, "44 and an array", want, wide, blank("t", timer), blank("c", counter), blank("d", array(api.Bool, n)))
	}
}

// blanks are n variables of a type, behind others.
func blanks(name string, n int, t api.Type, ahead ...api.Sym) []api.Sym {
	l := slices.Clone(ahead)
	for i := range n {
		l = append(l, blank(name+strconv.Itoa(i), t))
	}
	return l
}

func TestP801HowManyInits(t *testing.T) {
	for _, x := range []api.Type{{Kind: api.Int}, array(api.Byte, 1), array(api.Byte, 32), record(field("x", 1)), record(field("x", 1), field("y", 2), field("z", 3)), timer, counter} {
		for n := range 40 {
			want := api.OK
			if n != kinds.Size(x) {
				want = api.ErrArg
			}
			checks(t, "so many", want, of("a", x, make([]int, n)...))
		}
	}
	checks(t, "too many, none of which is a value", api.ErrArg, of("a", array(api.Bool, 2), 7, 7, 7))
	checks(t, "one, which is no value, lacking another", api.ErrArg, of("a", array(api.Bool, 2), 7))
	checks(t, "very many", api.ErrArg, of("a", api.Type{Kind: api.Int}, make([]int, 100000)...))
	checks(t, "as many in all", api.ErrArg, of("a", api.Type{Kind: api.Int}, 0, 0), of("b", api.Type{Kind: api.Int}))
}

func TestP801Values(t *testing.T) {
	for _, kind := range values {
		low, high := edge(kind)
		for _, n := range []int{low, high, 0, 1} {
			checks(t, "a value", api.OK, plain("a", kind, n))
		}
		if kind == api.Time {
			continue
		}
		for _, n := range []int{low - 1, high + 1, math.MinInt, math.MaxInt, 1 << 32, -1 << 33} {
			checks(t, "no value", api.ErrOver, plain("a", kind, n))
			checks(t, "no value, behind others", api.ErrOver, plain("b", kind, 1), plain("c", kind, high), plain("a", kind, n))
		}
	}
}

// TestP801EachCellsValue: each cell of a variable has its own kind.
func TestP801EachCellsValue(t *testing.T) {
	six := record(field("f", 1), field("e", 2), field("d", 3), field("c", 4), field("b", 5), field("a", 6))
	for _, c := range []struct {
		of api.Type
		l  []int
	}{
		{six, values},
		{timer, []int{api.Bool, api.Time, api.Bool, api.Time, api.Time, api.Bool}},
		{counter, []int{api.Bool, api.Bool, api.Dint, api.Bool, api.Dint, api.Bool}},
		{array(api.Bool, 4), []int{api.Bool, api.Bool, api.Bool, api.Bool}},
		{array(api.Int, 32), slices.Repeat([]int{api.Int}, 32)},
		{array(api.Time, 2), []int{api.Time, api.Time}},
	} {
		for i, kind := range c.l {
			low, high := edge(kind)
			s := blank("a", c.of)
			for _, n := range []int{low, high} {
				s.Init[i] = n
				checks(t, "a value", api.OK, s)
			}
			if kind == api.Time {
				continue
			}
			for _, n := range []int{low - 1, high + 1} {
				s.Init[i] = n
				checks(t, "no value", api.ErrOver, s)
			}
		}
	}
}

func TestP801Kept(t *testing.T) {
	for n := 1; n <= 32; n++ {
		want := api.OK
		if n > 24 {
			want = api.ErrMany
		}
		checks(t, "an array", want, kept(blank("a", array(api.Int, n))))
		checks(t, "an array without", api.OK, blank("a", array(api.Int, n)), kept(blank("b", timer)))
	}
	checks(t, "20 and 4, others between", api.OK, kept(blank("a", array(api.Byte, 20))), blank("b", array(api.Byte, 32)), kept(blank("c", array(api.Byte, 4))))
	checks(t, "20 and 5, others between", api.ErrMany, kept(blank("a", array(api.Byte, 20))), blank("b", array(api.Byte, 32)), kept(blank("c", array(api.Byte, 5))))
	checks(t, "four timers", api.OK, kept(blank("a", timer)), kept(blank("b", timer)), kept(blank("c", counter)), kept(blank("d", counter)))
	checks(t, "four timers and one", api.ErrMany, plain("e", 1, 0), kept(blank("a", timer)), kept(blank("b", timer)), kept(blank("c", counter)), kept(blank("d", counter)), kept(plain("f", api.Int, 0)))
}

// TestP801KeptBehindAll: that there are too many with Retain is told behind all else.
func TestP801KeptBehindAll(t *testing.T) {
	much := kept(blank("a", array(api.Byte, 25)))
	checks(t, "a name", api.ErrName, much, plain("B", api.Int, 0))
	checks(t, "a name that is there", api.ErrName, much, much)
	checks(t, "a type", api.ErrKind, much, of("d", api.Type{}))
	checks(t, "Init", api.ErrArg, much, of("d", timer))
	checks(t, "a value", api.ErrOver, much, plain("d", api.Bool, 2))
	much.Init = nil
	checks(t, "its own Init", api.ErrArg, much)
}

// TestP801InOrder: of one variable the first error that P801 names, of several that of the first.
func TestP801InOrder(t *testing.T) {
	full := []api.Sym{blank("a", array(api.Byte, 32)), blank("b", array(api.Byte, 32))}
	behind := func(s api.Sym) []api.Sym { return append(slices.Clone(full), s) }
	checks(t, "name, type, Init", api.ErrName, of("A", api.Type{}))
	checks(t, "name, cells", api.ErrName, behind(of("A", timer))...)
	checks(t, "name that is there, type", api.ErrName, behind(of("a", api.Type{}))...)
	checks(t, "type, cells, Init", api.ErrKind, behind(of("c", api.Type{}))...)
	checks(t, "type, cells", api.ErrArg, behind(of("c", array(api.Int, 33)))...)
	checks(t, "cells, Init", api.ErrMany, behind(of("c", timer))...)
	checks(t, "cells, a value", api.ErrMany, behind(plain("c", api.Bool, 2))...)
	bad := []struct {
		s api.Sym
		e api.Errno
	}{
		{plain("A", api.Int, 0), api.ErrName}, {of("k", api.Type{}), api.ErrKind}, {of("n", api.Type{Kind: api.Int}), api.ErrArg}, {plain("o", api.Byte, 256), api.ErrOver},
	}
	for _, x := range bad {
		for _, y := range bad {
			checks(t, "the first one's", x.e, plain("f", api.Int, 0), x.s, plain("g", api.Int, 0), y.s)
		}
		checks(t, "ahead of the one that is too many", x.e, append([]api.Sym{x.s}, full...)...)
	}
}

func TestP802Scalars(t *testing.T) {
	for _, kind := range values {
		_, high := edge(kind)
		has(t, "one", []api.Sym{plain("abc", kind, high)}, api.Cell{Path: "abc", Kind: kind, Init: high})
		has(t, "with Retain", []api.Sym{kept(plain("a1", kind, 1))}, api.Cell{Path: "a1", Kind: kind, Retain: true, Init: 1})
	}
	has(t, "none", nil)
	has(t, "none", []api.Sym{})
}

func TestP802Arrays(t *testing.T) {
	for _, elem := range values {
		for n := 1; n <= 32; n++ {
			s := blank("row", array(elem, n))
			s.Retain = n%2 == 1
			var want []api.Cell
			for i := range n {
				s.Init[i] = i % 2
				want = append(want, api.Cell{Path: fmt.Sprintf("row[%d]", i), Kind: elem, Retain: s.Retain, Init: i % 2})
			}
			want[0].Len = n
			has(t, "by index", []api.Sym{s}, want...)
		}
	}
}

func TestP802Structs(t *testing.T) {
	l := []api.Field{field("f", 1), field("e2", 2), field("abcdefgh", 3), field("c", 4), field("b", 5), field("s", 6)}
	init := []int{1, 255, 65535, -32768, -2147483648, math.MinInt}
	want := []api.Cell{{Path: "s.f", Kind: 1, Init: 1}, {Path: "s.e2", Kind: 2, Init: 255}, {Path: "s.abcdefgh", Kind: 3, Init: 65535}, {Path: "s.c", Kind: 4, Init: -32768}, {Path: "s.b", Kind: 5, Init: -2147483648}, {Path: "s.s", Kind: 6, Init: math.MinInt}}
	for n := 1; n <= 6; n++ {
		has(t, "by field", []api.Sym{of("s", record(l[:n]...), init[:n]...)}, want[:n]...)
	}
	has(t, "with Retain", []api.Sym{kept(of("x", record(l[:2]...), 0, 7))}, api.Cell{Path: "x.f", Kind: 1, Retain: true}, api.Cell{Path: "x.e2", Kind: 2, Retain: true, Init: 7})
}

func TestP802Blocks(t *testing.T) {
	has(t, "the chapter's example", []api.Sym{of("t", timer, 1, 5, 0, 2, -9, 1)},
		api.Cell{Path: "t.IN", Kind: api.Bool, Init: 1, Block: api.Ton}, api.Cell{Path: "t.PT", Kind: api.Time, Init: 5}, api.Cell{Path: "t.Q", Kind: api.Bool},
		api.Cell{Path: "t.ET", Kind: api.Time, Init: 2}, api.Cell{Path: "t.T0", Kind: api.Time, Init: -9}, api.Cell{Path: "t.RUN", Kind: api.Bool, Init: 1})
	has(t, "a counter", []api.Sym{kept(of("c", counter, 0, 1, 9, 0, -3, 1))},
		api.Cell{Path: "c.CU", Kind: api.Bool, Retain: true, Block: api.Ctu}, api.Cell{Path: "c.R", Kind: api.Bool, Retain: true, Init: 1}, api.Cell{Path: "c.PV", Kind: api.Dint, Retain: true, Init: 9},
		api.Cell{Path: "c.Q", Kind: api.Bool, Retain: true}, api.Cell{Path: "c.CV", Kind: api.Dint, Retain: true, Init: -3}, api.Cell{Path: "c.OLD", Kind: api.Bool, Retain: true, Init: 1})
}

// TestP802InOrder: the cells of several are those of each, one behind the other.
func TestP802InOrder(t *testing.T) {
	l := []api.Sym{plain("z", api.Int, 4), kept(of("y", array(api.Byte, 3), 1, 2, 3)), of("x", record(field("b", 1), field("a", 2)), 1, 9), kept(plain("w", api.Bool, 1)), blank("v", timer), of("u", array(api.Time, 1), 7), kept(blank("t", counter))}
	for i := range l {
		for j := i; j <= len(l); j++ {
			var want []api.Cell
			for _, s := range l[i:j] {
				want = append(want, layout.Cells([]api.Sym{s})...)
			}
			has(t, "of each", l[i:j], want...)
		}
	}
	has(t, "three", l[:3], api.Cell{Path: "z", Kind: 4, Init: 4}, api.Cell{Path: "y[0]", Kind: 2, Retain: true, Init: 1, Len: 3}, api.Cell{Path: "y[1]", Kind: 2, Retain: true, Init: 2}, api.Cell{Path: "y[2]", Kind: 2, Retain: true, Init: 3}, api.Cell{Path: "x.b", Kind: 1, Init: 1}, api.Cell{Path: "x.a", Kind: 2, Init: 9})
}

func TestP802Begin(t *testing.T) {
	if got := layout.Begin(nil); len(got) != 0 {
		t.Errorf("none: %v", got)
	}
	for _, want := range [][]int{{5}, {0, -1, math.MaxInt, math.MinInt}, {3, 2, 1, 1}} {
		var l []api.Cell
		for i, n := range want {
			l = append(l, api.Cell{Path: "a", Kind: i, Init: n, Len: 9, Block: 9, Retain: i%2 == 0})
		}
		was := slices.Clone(l)
		first, second := layout.Begin(l), layout.Begin(l)
		spoil(first, 77)
		if !slices.Equal(second, want) || !slices.Equal(l, was) {
			t.Errorf("%v, and not %v", second, want)
		}
	}
}

func TestP802Find(t *testing.T) {
	l := layout.Cells([]api.Sym{plain("a", api.Int, 0), blank("b", array(api.Int, 12)), blank("t", timer), blank("s", record(field("x", 1), field("y", 1))), plain("ab", api.Int, 0)})
	for i, c := range l {
		finds(t, "its own path", l, c.Path, i)
		finds(t, "of those ahead", l[:i], c.Path, -1)
	}
	for _, path := range []string{"", " ", "b", "b[", "b[]", "b[12]", "b[-1]", "b[00]", "b[01]", "b[1", "b[1] ", "b1", "t", "t.", "t.in", "t.IN ", "in", "IN", "s", "s.z", "s.X", "x", "A", "aa", "a.", "a[0]", "ba", "\x00", strings.Repeat("a", 100000)} {
		finds(t, "no path", l, path, -1)
	}
	finds(t, "of none", nil, "a", -1)
	finds(t, "of none", nil, "", -1)
}

// TestP802FindOfAnyCells: the first one; paths are held against each other as they are.
func TestP802FindOfAnyCells(t *testing.T) {
	l := []api.Cell{{Path: "b"}, {Path: "a", Kind: 4}, {Path: "a", Kind: 5}, {Path: "", Init: 3}, {Path: "b"}, {Path: "\xff.[", Len: -1}, {}}
	for path, at := range map[string]int{"b": 0, "a": 1, "": 3, "\xff.[": 5, "\xfe.[": -1, "c": -1} {
		was := slices.Clone(l)
		finds(t, "the first one", l, path, at)
		if !slices.Equal(l, was) {
			t.Errorf("P2: %s", told(l))
		}
	}
	finds(t, "the first one of what is left", l[2:], "a", 0)
}

// spoil overwrites a list and its spare room.
func spoil[E any](l []E, by E) {
	l = l[:cap(l)]
	for i := range l {
		l[i] = by
	}
}

func TestAnswersAreNew(t *testing.T) {
	l := []api.Sym{plain("z", api.Int, 4), kept(of("y", array(api.Byte, 3), 1, 2, 3)), of("x", record(field("b", 1), field("a", 2)), 1, 9), blank("v", timer)}
	want := slices.Clone(layout.Cells(l))
	for i := range 2 {
		first, second := layout.Cells(l), layout.Cells(l)
		spoil(first, api.Cell{Path: "spoilt", Kind: 99, Init: 99})
		if !slices.Equal(second, want) {
			t.Errorf("P2: %d: %s", i, told(second))
		}
		values, others := layout.Begin(second), layout.Begin(second)
		spoil(values, 99)
		if !slices.Equal(others, []int{4, 1, 2, 3, 1, 9, 0, 0, 0, 0, 0, 0}) {
			t.Errorf("P2: %d: %v", i, others)
		}
	}
	has(t, "P2: what was handed in is shared", l, want...)
}

// wild are variables, most of which may not be.
func wild() []api.Sym {
	types := []api.Type{{}, timer, counter, record(), record(make([]api.Field, 50)...), record(field("x", 1), field("x", 1)), record(field("X", 99)), record(field("x", 6), field("y", 1)), {Kind: api.Int, N: 3}, {Kind: api.Ton, Fields: []api.Field{field("x", 1)}}}
	for _, kind := range append(slices.Clone(values), noKinds...) {
		types = append(types, api.Type{Kind: kind})
		for _, n := range []int{0, 1, 32, 33, -1, 1 << 40, math.MaxInt, math.MinInt} {
			types = append(types, array(kind, n))
		}
	}
	var l []api.Sym
	for i, x := range types {
		for n := range 8 {
			room := slices.Repeat([]int{7}, n+40)
			l = append(l, api.Sym{Name: []string{"a", "", "A", "a[0]", "\xff", "b"}[(i+n)%6], Type: x, Retain: n%2 == 0, Init: room[:n]})
		}
	}
	return l
}

// copied shares nothing with what it is a copy of, but has its spare room, too.
func copied(l []api.Sym) []api.Sym {
	l = slices.Clone(l)
	for i, s := range l {
		l[i].Type.Fields = slices.Clone(s.Type.Fields[:cap(s.Type.Fields)])[:len(s.Type.Fields)]
		l[i].Init = slices.Clone(s.Init[:cap(s.Init)])[:len(s.Init)]
	}
	return l
}

func same(a, b api.Sym) bool {
	return a.Name == b.Name && kinds.Same(a.Type, b.Type) && a.Retain == b.Retain && slices.Equal(a.Init, b.Init) && slices.Equal(a.Init[:cap(a.Init)], b.Init[:cap(a.Init)])
}

// TestAnyVariables: no call panics, changes what it is handed, or answers another thing the second time.
func TestAnyVariables(t *testing.T) {
	all := wild()
	for i := range all {
		for _, l := range [][]api.Sym{all[i : i+1], all[i:min(i+2, len(all))], all[:i]} {
			was := copied(l)
			if layout.Check(l) != layout.Check(l) {
				t.Errorf("P3: Check of %s", told(l))
			}
			c := layout.Cells(l)
			if !slices.Equal(c, layout.Cells(l)) || !slices.Equal(layout.Begin(c), layout.Begin(c)) {
				t.Errorf("P3: Cells of %s", told(l))
			}
			layout.Find(c, "a[0]")
			if !slices.EqualFunc(l, was, same) {
				t.Fatalf("P2: %s was %s", told(l), told(was))
			}
		}
	}
}

// dice is a row of numbers that comes again each time.
type dice uint64

func (d *dice) below(n int) int {
	*d = *d*6364136223846793005 + 1442695040888963407
	return int(uint64(*d)>>33) % n
}

// rarely is true once in n times.
func (d *dice) rarely(n int) bool { return d.below(n) == 0 }

// name is one of a few, seldom one that may not be.
func (d *dice) name() string {
	if d.rarely(60) {
		return []string{"", "A", "1", "a.b", "a[0]", "abcdefghijklm", "t.IN"}[d.below(7)]
	}
	return string(rune('a'+d.below(26))) + []string{"", "a", "9", "bcdefghijkl"}[d.below(4)]
}

func (d *dice) kind() int {
	if d.rarely(150) {
		return []int{0, 7, 9, -1, 11}[d.below(5)]
	}
	return 1 + d.below(6)
}

func (d *dice) aType() api.Type {
	switch d.below(8) {
	case 0:
		return array(d.kind(), 1+d.below(20))
	case 1:
		return array(d.kind(), d.below(35))
	case 2:
		x := record()
		for i := range 1 + d.below(6) {
			x.Fields = append(x.Fields, field(string(rune('a'+i)), d.kind()))
		}
		return x
	case 3:
		return timer
	case 4:
		return counter
	}
	return api.Type{Kind: d.kind()}
}

// variable is one that may be, or one that may not for a reason or two.
func (d *dice) variable() api.Sym {
	s := api.Sym{Name: d.name(), Type: d.aType(), Retain: d.rarely(3)}
	n := kinds.Size(s.Type)
	if d.rarely(50) {
		n = d.below(8)
	}
	for range n {
		s.Init = append(s.Init, d.below(2))
	}
	if n > 0 && d.rarely(20) {
		s.Init[d.below(n)] = []int{2, -1, 256, 65536, -32769, 1 << 31, 1 << 40}[d.below(7)]
	}
	return s
}

func (d *dice) variables() []api.Sym {
	var l []api.Sym
	for range d.below(15) {
		l = append(l, d.variable())
	}
	return l
}

// expected is what Check should answer: one pass for each thing that may be wrong, worked out apart from the program.
func expected(l []api.Sym) api.Errno {
	if len(l) > 12 {
		return api.ErrMany
	}
	all, retained := 0, 0
	for i, s := range l {
		twice := slices.ContainsFunc(l[:i], func(x api.Sym) bool { return x.Name == s.Name })
		wrong := strings.Trim(s.Name, "abcdefghijklmnopqrstuvwxyz0123456789") != "" || strings.TrimLeft(s.Name, "0123456789") != s.Name
		if twice || wrong || s.Name == "" || len(s.Name) > 12 {
			return api.ErrName
		}
		if e := kinds.Check(s.Type); e != api.OK {
			return e
		}
		l := kindsOf(s.Type)
		all += len(l)
		if s.Retain {
			retained += len(l)
		}
		if all > 64 {
			return api.ErrMany
		}
		if len(l) != len(s.Init) {
			return api.ErrArg
		}
		for k, n := range s.Init {
			if low, high := edge(l[k]); n < low || n > high {
				return api.ErrOver
			}
		}
	}
	if retained > 24 {
		return api.ErrMany
	}
	return api.OK
}

// kindsOf is the kind of each cell of a type that may be.
func kindsOf(x api.Type) []int {
	switch x.Kind {
	case api.Array:
		return slices.Repeat([]int{x.Elem}, x.N)
	case api.Struct:
		var l []int
		for _, f := range x.Fields {
			l = append(l, f.Kind)
		}
		return l
	case api.Ton:
		return []int{1, 6, 1, 6, 6, 1}
	case api.Ctu:
		return []int{1, 1, 5, 1, 5, 1}
	}
	return []int{x.Kind}
}

func TestP801OfMany(t *testing.T) {
	d := dice(801)
	met := map[api.Errno]int{}
	for range 20000 {
		l := d.variables()
		want := expected(l)
		checks(t, "any variables", want, l...)
		met[want]++
	}
	for _, e := range []api.Errno{api.OK, api.ErrMany, api.ErrName, api.ErrKind, api.ErrArg, api.ErrOver} {
		if met[e] < 200 {
			t.Errorf("%v: %d times", e, met[e])
		}
	}
}

// TestP803OnePathEach: of what Check allows no two cells have one path; each is found where it is, and begins with a value of its kind.
func TestP803OnePathEach(t *testing.T) {
	d := dice(803)
	allowed, most := 0, 0
	for range 20000 {
		l := d.variables()
		if layout.Check(l) != api.OK {
			continue
		}
		allowed++
		c := layout.Cells(l)
		most = max(most, len(c))
		paths := map[string]bool{}
		for i, x := range c {
			if paths[x.Path] {
				t.Fatalf("%q twice: %s", x.Path, told(l))
			}
			paths[x.Path] = true
			finds(t, "its own path", c, x.Path, i)
			if low, high := edge(x.Kind); x.Init < low || x.Init > high || x.Kind < 1 || x.Kind > 6 {
				t.Fatalf("%s", told(x))
			}
		}
		began := layout.Begin(c)
		var inits []int
		for _, s := range l {
			inits = append(inits, s.Init...)
		}
		if !slices.Equal(began, inits) {
			t.Fatalf("%v, and not %v", began, inits)
		}
	}
	if allowed < 2000 || most < 40 {
		t.Errorf("%d lists were allowed, of %d cells at most", allowed, most)
	}
}
