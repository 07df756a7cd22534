package kinds_test

import (
	"fmt"
	"math"
	"slices"
	"strings"
	"testing"

	"solenoid/api"
	"solenoid/kinds"
)

// noKinds are numbers of no kind, of values or of variables.
var noKinds = []int{0, -1, -2, -6, 11, 12, 16, 99, 255, 256, 257, 1 << 32, 1<<32 + 1, math.MaxInt, math.MinInt, math.MinInt + 1}

// noValues are numbers of no kind of values.
var noValues = append([]int{api.Array, api.Struct, api.Ton, api.Ctu}, noKinds...)

var values = []int{api.Bool, api.Byte, api.Word, api.Int, api.Dint, api.Time}

// edges are numbers about each power of two, on both sides of nought.
func edges() []int {
	l := []int{math.MaxInt, math.MinInt, 40000, 70000, -70000, 0x123456789abcdef, -0x123456789abcdef}
	for bit := range 63 {
		for d := -2; d <= 2; d++ {
			l = append(l, 1<<bit+d, -(1<<bit)+d)
		}
	}
	return l
}

// field is one of a struct's.
func field(name string, kind int) api.Field { return api.Field{Name: name, Kind: kind} }

// record is a struct of these fields.
func record(l ...api.Field) api.Type { return api.Type{Kind: api.Struct, Fields: l} }

// named is a struct whose fields have these names, each a Dint.
func named(names ...string) api.Type {
	t := api.Type{Kind: api.Struct}
	for _, n := range names {
		t.Fields = append(t.Fields, field(n, api.Dint))
	}
	return t
}

func array(elem, n int) api.Type { return api.Type{Kind: api.Array, Elem: elem, N: n} }

// told is a type as a line, cut where it is too long for one.
func told(x api.Type) string {
	s := fmt.Sprintf("%#v", x)
	return s[:min(len(s), 300)]
}

// checks asks Check for an answer.
func checks(t *testing.T, what string, x api.Type, want api.Errno) {
	t.Helper()
	if got := kinds.Check(x); got != want {
		t.Errorf("%s: %s: %v, and not %v", what, told(x), got, want)
	}
}

func sizes(t *testing.T, what string, x api.Type, want int) {
	t.Helper()
	if got := kinds.Size(x); got != want {
		t.Errorf("%s: %s: %d, and not %d", what, told(x), got, want)
	}
}

// has asks Fields for an answer.
func has(t *testing.T, what string, x api.Type, want ...api.Field) {
	t.Helper()
	if got := kinds.Fields(x); !slices.Equal(got, want) {
		t.Errorf("%s: %s: %v, and not %v", what, told(x), got, want)
	}
}

// same asks Same for an answer, the one way and the other.
func same(t *testing.T, what string, a, b api.Type, want bool) {
	t.Helper()
	if kinds.Same(a, b) != want || kinds.Same(b, a) != want {
		t.Errorf("%s: %s and %s: not %v", what, told(a), told(b), want)
	}
}

func TestP701Bool(t *testing.T) {
	for _, n := range edges() {
		want := 1
		if n == 0 {
			want = 0
		}
		if got := kinds.Wrap(api.Bool, n); got != want {
			t.Errorf("%d: %d", n, got)
		}
	}
}

func TestP701Known(t *testing.T) {
	for _, c := range []struct{ kind, n, want int }{
		{api.Byte, 0, 0}, {api.Byte, 255, 255}, {api.Byte, 256, 0}, {api.Byte, 257, 1}, {api.Byte, -1, 255}, {api.Byte, -255, 1}, {api.Byte, -256, 0},
		{api.Byte, 128, 128}, {api.Byte, math.MaxInt, 255}, {api.Byte, math.MinInt, 0},
		{api.Word, 255, 255}, {api.Word, 256, 256}, {api.Word, 32768, 32768}, {api.Word, 65535, 65535}, {api.Word, 65536, 0}, {api.Word, -1, 65535}, {api.Word, -65536, 0},
		{api.Word, math.MaxInt, 65535}, {api.Word, math.MinInt, 0},
		{api.Int, 32767, 32767}, {api.Int, 32768, -32768}, {api.Int, 40000, -25536}, {api.Int, 65535, -1}, {api.Int, 65536, 0}, {api.Int, -1, -1}, {api.Int, -32768, -32768},
		{api.Int, -32769, 32767}, {api.Int, math.MaxInt, -1}, {api.Int, math.MinInt, 0},
		{api.Dint, 65535, 65535}, {api.Dint, 1<<31 - 1, 1<<31 - 1}, {api.Dint, 1 << 31, -1 << 31}, {api.Dint, 1<<32 - 1, -1}, {api.Dint, 1 << 32, 0}, {api.Dint, -1, -1},
		{api.Dint, -1 << 31, -1 << 31}, {api.Dint, -1<<31 - 1, 1<<31 - 1}, {api.Dint, math.MaxInt, -1}, {api.Dint, math.MinInt, 0},
	} {
		if got := kinds.Wrap(c.kind, c.n); got != c.want {
			t.Errorf("Wrap(%d, %d): %d, and not %d", c.kind, c.n, got, c.want)
		}
	}
}

// TestP701LowestBits holds Wrap against the one number of the kind's range that differs by whole turns.
func TestP701LowestBits(t *testing.T) {
	for _, c := range []struct{ kind, low, turn int }{
		{api.Byte, 0, 1 << 8}, {api.Word, 0, 1 << 16}, {api.Int, -1 << 15, 1 << 16}, {api.Dint, -1 << 31, 1 << 32},
	} {
		for _, n := range edges() {
			got := kinds.Wrap(c.kind, n)
			if got < c.low || got >= c.low+c.turn || uint(got-n)%uint(c.turn) != 0 {
				t.Errorf("Wrap(%d, %d): %d", c.kind, n, got)
			}
		}
	}
}

func TestP701Time(t *testing.T) {
	for _, n := range edges() {
		if got := kinds.Wrap(api.Time, n); got != n {
			t.Errorf("%d: %d", n, got)
		}
	}
}

func TestP701NoKindOfValues(t *testing.T) {
	for _, kind := range noValues {
		for _, n := range edges() {
			if got := kinds.Wrap(kind, n); got != 0 {
				t.Errorf("Wrap(%d, %d): %d", kind, n, got)
			}
		}
	}
}

func TestP702CheckNoKind(t *testing.T) {
	for _, kind := range noKinds {
		checks(t, "no kind", api.Type{Kind: kind}, api.ErrKind)
		checks(t, "that ahead of Elem", api.Type{Kind: kind, Elem: 1}, api.ErrKind)
		checks(t, "that ahead of N", api.Type{Kind: kind, N: 1}, api.ErrKind)
		checks(t, "that ahead of Fields", api.Type{Kind: kind, Fields: named("a").Fields}, api.ErrKind)
	}
}

// TestP702CheckPlain: a kind of values, a timer, a counter says nothing but its kind.
func TestP702CheckPlain(t *testing.T) {
	for _, kind := range append([]int{api.Ton, api.Ctu}, values...) {
		checks(t, "plain", api.Type{Kind: kind}, api.OK)
		checks(t, "no fields", api.Type{Kind: kind, Fields: []api.Field{}}, api.OK)
		for _, n := range []int{1, -1, 6, 32, 33, math.MaxInt, math.MinInt} {
			checks(t, "Elem", api.Type{Kind: kind, Elem: n}, api.ErrArg)
			checks(t, "N", api.Type{Kind: kind, N: n}, api.ErrArg)
		}
		checks(t, "Elem and N that come to nought", api.Type{Kind: kind, Elem: 1, N: -1}, api.ErrArg)
		checks(t, "a field", api.Type{Kind: kind, Fields: named("a").Fields}, api.ErrArg)
		checks(t, "a field that may not be", api.Type{Kind: kind, Fields: []api.Field{{}}}, api.ErrArg)
	}
	for _, kind := range []int{api.Ton, api.Ctu} {
		checks(t, "a block's own fields", api.Type{Kind: kind, Fields: kinds.Fields(api.Type{Kind: kind})}, api.ErrArg)
	}
}

func TestP702CheckArray(t *testing.T) {
	for _, elem := range values {
		for n := 1; n <= 32; n++ {
			checks(t, "an array", array(elem, n), api.OK)
		}
		for _, n := range []int{0, -1, -32, 33, 34, 64, 1<<32 + 1, math.MaxInt, math.MinInt} {
			checks(t, "N", array(elem, n), api.ErrArg)
		}
		checks(t, "no fields", api.Type{Kind: api.Array, Elem: elem, N: 3, Fields: []api.Field{}}, api.OK)
		checks(t, "fields", api.Type{Kind: api.Array, Elem: elem, N: 3, Fields: named("a").Fields}, api.ErrArg)
	}
	for _, elem := range noValues {
		for _, n := range []int{1, 32, 0, 33, -1} {
			checks(t, "Elem, ahead of N", array(elem, n), api.ErrKind)
		}
		checks(t, "fields, ahead of Elem", api.Type{Kind: api.Array, Elem: elem, N: 3, Fields: named("a").Fields}, api.ErrArg)
	}
}

func TestP702CheckStruct(t *testing.T) {
	names := []string{"a", "b", "c", "d", "e", "f", "g", "h"}
	for n := 1; n <= 6; n++ {
		checks(t, "1 to 6 fields", named(names[:n]...), api.OK)
	}
	checks(t, "no fields", named(), api.ErrArg)
	checks(t, "no fields", record([]api.Field{}...), api.ErrArg)
	checks(t, "7 fields", named(names[:7]...), api.ErrArg)
	checks(t, "8 fields", named(names...), api.ErrArg)
	checks(t, "many fields, none of which may be", record(make([]api.Field, 100000)...), api.ErrArg)
	for _, c := range []struct{ elem, n int }{{1, 0}, {0, 1}, {-1, 0}, {0, -1}, {1, -1}, {4, 1}, {math.MaxInt, 0}, {0, math.MinInt}} {
		x := named("a")
		x.Elem, x.N = c.elem, c.n
		checks(t, "Elem, N", x, api.ErrArg)
		x = named("A")
		x.Elem, x.N = c.elem, c.n
		checks(t, "Elem, N, ahead of a name", x, api.ErrArg)
	}
}

func TestP702CheckFieldName(t *testing.T) {
	for _, s := range []string{"a", "z", "m", "a0", "z9", "aa", "ab", "abcdefgh", "a1234567", "zzzzzzzz", "a0z9", "in", "q"} {
		checks(t, "a name", named(s), api.OK)
		checks(t, "a name, behind another", named("y", s), api.OK)
	}
	for _, s := range []string{
		"", "abcdefghi", "a12345678", strings.Repeat("a", 12), strings.Repeat("a", 100000), // how long
		"0", "9", "0a", "9a", "12345678", // the first one is a letter
		"A", "Z", "aB", "IN", "T0", "_", "a_", "a b", " a", "a ", "a-b", "a.b", "a[1]", "a\x00", "\x00", "a\n", // no such signs
		"`", "{", "@", "/", ":", "a`", "a{", "a/", "a:", // beside those that may be
		"\u00e4", "a\u00e4", "\u0430", "a\u0661", "\uff41", "\xff", "a\x80", "\xe1", // beyond seven bits
	} {
		checks(t, "no name", named(s), api.ErrName)
		checks(t, "no name, behind another", named("y", s), api.ErrName)
		checks(t, "no name, ahead of another", named(s, "y"), api.ErrName)
	}
}

// TestP702CheckEachSign asks for each byte, as the first one and as a later one.
func TestP702CheckEachSign(t *testing.T) {
	for b := range 256 {
		sign := string([]byte{byte(b)})
		first, later := api.ErrName, api.ErrName
		if strings.Contains("abcdefghijklmnopqrstuvwxyz", sign) {
			first, later = api.OK, api.OK
		} else if strings.Contains("0123456789", sign) {
			later = api.OK
		}
		checks(t, "alone", named(sign), first)
		checks(t, "first", named(sign+"a"), first)
		checks(t, "later", named("a"+sign), later)
		checks(t, "within", named("abc"+sign+"def"), later)
		checks(t, "the eighth", named("abcdefg"+sign), later)
	}
}

func TestP702CheckNameOfOneAhead(t *testing.T) {
	names := []string{"a", "b", "c", "d", "e", "f"}
	for i := range names {
		for j := range i {
			l := slices.Clone(names)
			l[i] = l[j]
			checks(t, "a name that is there", named(l...), api.ErrName)
			checks(t, "a name that is there, the last one", named(l[:i+1]...), api.ErrName)
		}
	}
	checks(t, "of another kind", record(field("a", 1), field("a", 2)), api.ErrName)
	checks(t, "the beginning of another", named("ab", "a", "abc", "b"), api.OK)
}

func TestP702CheckFieldKind(t *testing.T) {
	for _, kind := range values {
		checks(t, "a kind of values", record(field("a", kind)), api.OK)
	}
	for _, kind := range noValues {
		checks(t, "none", record(field("a", kind)), api.ErrKind)
		for i := range 6 {
			x := named("a", "b", "c", "d", "e", "f")
			x.Fields[i].Kind = kind
			checks(t, "none, among others", x, api.ErrKind)
		}
	}
}

// TestP702CheckFieldsInOrder: the first field that has an error says which; its name goes ahead of its kind.
func TestP702CheckFieldsInOrder(t *testing.T) {
	checks(t, "name and kind", record(field("A", 0)), api.ErrName)
	checks(t, "kind, then name", record(field("a", 7), field("A", 1)), api.ErrKind)
	checks(t, "name, then kind", record(field("A", 1), field("a", 7)), api.ErrName)
	checks(t, "kind, then one of that name", record(field("a", 7), field("a", 1)), api.ErrKind)
	checks(t, "one of that name, of no kind", record(field("a", 1), field("a", 7)), api.ErrName)
	checks(t, "one of that name, then kind", record(field("a", 1), field("a", 1), field("b", 7)), api.ErrName)
	checks(t, "kind, then one of that name", record(field("a", 1), field("b", 7), field("a", 1)), api.ErrKind)
	checks(t, "too many, ahead of all", record(field("A", 7), field("", 0), field("c", 1), field("d", 1), field("e", 1), field("f", 1), field("g", 1)), api.ErrArg)
}

func TestP702Fields(t *testing.T) {
	has(t, "a timer", api.Type{Kind: api.Ton}, field("IN", api.Bool), field("PT", api.Time), field("Q", api.Bool), field("ET", api.Time), field("T0", api.Time), field("RUN", api.Bool))
	has(t, "a counter", api.Type{Kind: api.Ctu}, field("CU", api.Bool), field("R", api.Bool), field("PV", api.Dint), field("Q", api.Bool), field("CV", api.Dint), field("OLD", api.Bool))
	l := []api.Field{field("f", 1), field("e", 2), field("d", 3), field("c", 4), field("b", 5), field("a", 6)}
	for n := range len(l) + 1 {
		has(t, "a struct", record(l[:n]...), l[:n]...)
	}
	for _, kind := range values {
		has(t, "a kind of values", api.Type{Kind: kind})
	}
	for n := range 33 {
		has(t, "an array", array(api.Int, n))
	}
	for _, kind := range noKinds {
		has(t, "no kind", api.Type{Kind: kind})
	}
}

// TestP702FieldsAreNew: what is answered is nobody else's, its spare room too.
func TestP702FieldsAreNew(t *testing.T) {
	own := []api.Field{field("a", 1), field("b", 2), field("c", 3), field("d", 4)}
	part := own[:2]
	for _, x := range []api.Type{record(part...), {Kind: api.Struct, Fields: part}, {Kind: api.Ton}, {Kind: api.Ctu}} {
		want := slices.Clone(kinds.Fields(x))
		first, second := kinds.Fields(x), kinds.Fields(x)
		first = first[:cap(first)]
		for i := range first {
			first[i] = field("spoilt", 99)
		}
		if !slices.Equal(second, want) {
			t.Errorf("P2: two answers share: %v", second)
		}
		has(t, "P2: an answer is kept", x, want...)
	}
	if !slices.Equal(own, []api.Field{field("a", 1), field("b", 2), field("c", 3), field("d", 4)}) {
		t.Errorf("P2: what was handed in is shared: %v", own)
	}
}

func TestP702Size(t *testing.T) {
	for _, kind := range values {
		sizes(t, "a kind of values", api.Type{Kind: kind}, 1)
	}
	for _, elem := range values {
		for n := 1; n <= 32; n++ {
			sizes(t, "an array", array(elem, n), n)
		}
	}
	names := []string{"a", "b", "c", "d", "e", "f"}
	for n := 1; n <= 6; n++ {
		sizes(t, "a struct", named(names[:n]...), n)
	}
	sizes(t, "a timer", api.Type{Kind: api.Ton}, 6)
	sizes(t, "a counter", api.Type{Kind: api.Ctu}, 6)
}

func TestP702SameOfTheSame(t *testing.T) {
	for _, x := range wild() {
		y := x
		y.Fields = slices.Clone(x.Fields)
		same(t, "itself", x, x, true)
		same(t, "one of its own", x, y, true)
	}
	for _, kind := range []int{api.Int, api.Struct, 0} {
		same(t, "nil and empty", api.Type{Kind: kind}, api.Type{Kind: kind, Fields: []api.Field{}}, true)
	}
	room := []api.Field{field("a", 1), field("b", 2), field("c", 3)}
	same(t, "what stands behind a list", record(room[:2]...), record(field("a", 1), field("b", 2)), true)
}

func TestP702SameOfOthers(t *testing.T) {
	l := wild()
	for i, a := range l {
		for _, b := range l[:i] {
			same(t, "others", a, b, false)
		}
	}
	a := api.Type{Kind: 8, Elem: 1, N: 2, Fields: []api.Field{field("x", 1), field("y", 2), field("z", 3)}}
	for i := range a.Fields {
		b := a
		b.Fields = slices.Clone(a.Fields)
		b.Fields[i].Kind++
		same(t, "a field's kind", a, b, false)
		b.Fields = slices.Clone(a.Fields)
		b.Fields[i].Name += "x"
		same(t, "a field's name", a, b, false)
		b.Fields = slices.Delete(slices.Clone(a.Fields), i, i+1)
		same(t, "a field less", a, b, false)
	}
	b := a
	b.Fields = []api.Field{a.Fields[1], a.Fields[0], a.Fields[2]}
	same(t, "fields in another order", a, b, false)
}

// wild are types, no two alike, most of which may not be.
func wild() []api.Type {
	var l []api.Type
	for _, kind := range append(slices.Clone(noValues), values...) {
		for _, elem := range []int{0, 1, -1, math.MinInt} {
			for _, n := range []int{0, 1, math.MaxInt} {
				for _, fields := range [][]api.Field{nil, {{}}, {field("a", 1)}, {field("a", 1), field("a", 1)}, {field("\xff", math.MinInt)}, {field("", 1)}, {field("a", 0)}} {
					l = append(l, api.Type{Kind: kind, Elem: elem, N: n, Fields: fields})
				}
			}
		}
	}
	return l
}

// TestAnyType: no call panics, changes what it is handed, or answers another thing the second time.
func TestAnyType(t *testing.T) {
	for _, x := range wild() {
		room := append(slices.Clone(x.Fields), field("room", 1))
		was := slices.Clone(room)
		x.Fields = room[:len(room)-1]
		if kinds.Check(x) != kinds.Check(x) || kinds.Size(x) != kinds.Size(x) || !slices.Equal(kinds.Fields(x), kinds.Fields(x)) || !kinds.Same(x, x) {
			t.Errorf("P3: %s", told(x))
		}
		if !slices.Equal(room, was) {
			t.Errorf("P2: %s: its list is changed", told(x))
		}
	}
}

// TestP702Allowed: what Check allows has as many cells as its kind says, 1 to 32, and each of its fields is of a kind of values.
func TestP702Allowed(t *testing.T) {
	for _, x := range wild() {
		if kinds.Check(x) != api.OK {
			continue
		}
		if n := kinds.Size(x); n < 1 || n > 32 {
			t.Errorf("%s: %d cells", told(x), n)
		}
		for _, f := range kinds.Fields(x) {
			if !slices.Contains(values, f.Kind) {
				t.Errorf("%s: %v", told(x), f)
			}
		}
	}
}

func TestP703WrapOfWhatWasWrapped(t *testing.T) {
	for _, kind := range append(slices.Clone(noValues), values...) {
		for _, n := range edges() {
			once := kinds.Wrap(kind, n)
			if again := kinds.Wrap(kind, once); again != once {
				t.Errorf("Wrap(%d, %d): %d, then %d", kind, n, once, again)
			}
		}
	}
}
