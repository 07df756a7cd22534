package code_test

import (
	"bytes"
	"math"
	"strings"
	"testing"

	"solenoid/api"
	"solenoid/code"
)

func TestP101Int(t *testing.T) {
	high := strings.Repeat("\xff", 7)
	nought := strings.Repeat("\x00", 7)
	for _, c := range []struct {
		n    int
		want string
	}{
		{0, nought + "\x00"},
		{1, "\x01" + nought},
		{-1, high + "\xff"},
		{-2, "\xfe" + high},
		{255, "\xff" + nought},
		{256, "\x00\x01" + nought[:6]},
		{0x0807060504030201, "\x01\x02\x03\x04\x05\x06\x07\x08"},
		{math.MaxInt, high + "\x7f"},
		{math.MinInt, nought + "\x80"},
	} {
		if got := code.Int(nil, c.n); string(got) != c.want {
			t.Errorf("Int(nil, %d): %x", c.n, got)
		}
		if got := code.Int([]byte("ab"), c.n); string(got) != "ab"+c.want {
			t.Errorf("Int(ab, %d): %x", c.n, got)
		}
	}
}

func TestP101Byte(t *testing.T) {
	for _, c := range []struct {
		n    int
		want byte
	}{{0, 0}, {1, 1}, {127, 127}, {128, 128}, {255, 255}, {256, 0}, {511, 255}, {0x1234, 0x34}, {-1, 255}, {-256, 0}, {math.MinInt, 0}, {math.MaxInt, 255}} {
		if got := code.Byte(nil, c.n); !bytes.Equal(got, []byte{c.want}) {
			t.Errorf("Byte(nil, %d): %x", c.n, got)
		}
		if got := code.Byte([]byte("ab"), c.n); !bytes.Equal(got, []byte{'a', 'b', c.want}) {
			t.Errorf("Byte(ab, %d): %x", c.n, got)
		}
	}
}

func TestP101Text(t *testing.T) {
	for _, c := range []struct {
		s, head string
	}{
		{"", "\x00\x00"},
		{"a", "\x01\x00"},
		{"\x00\xff\xc3\n", "\x04\x00"},
		{"\u00e9", "\x02\x00"}, // bytes count, not signs
		{strings.Repeat("x", 255), "\xff\x00"},
		{strings.Repeat("x", 256), "\x00\x01"},
		{strings.Repeat("x", 65535), "\xff\xff"},
	} {
		if got := code.Text(nil, c.s); string(got) != c.head+c.s {
			t.Errorf("Text(nil) of %d bytes: %d bytes", len(c.s), len(got))
		}
		if got := code.Text([]byte("ab"), c.s); string(got) != "ab"+c.head+c.s {
			t.Errorf("Text(ab) of %d bytes: %d bytes", len(c.s), len(got))
		}
	}
}

func TestP101TextIsCut(t *testing.T) {
	first := strings.Repeat("x", 65534) + "y"
	for _, more := range []string{"z", strings.Repeat("z", 65535), strings.Repeat("z", 70000)} {
		if got := code.Text([]byte("a"), first+more); string(got) != "a\xff\xff"+first {
			t.Errorf("a text of %d bytes: %d bytes", len(first+more), len(got))
		}
	}
}

func writers() map[string]func(b []byte) []byte {
	return map[string]func(b []byte) []byte{
		"Int":   func(b []byte) []byte { return code.Int(b, -1) },
		"Byte":  func(b []byte) []byte { return code.Byte(b, -1) },
		"Text":  func(b []byte) []byte { return code.Text(b, "hi") },
		"Empty": func(b []byte) []byte { return code.Text(b, "") },
	}
}

func TestP101NilIsEmpty(t *testing.T) {
	for name, write := range writers() {
		if !bytes.Equal(write(nil), write([]byte{})) {
			t.Errorf("P2: %s: nil and empty are not the same", name)
		}
	}
}

func TestP101AnswersAreNew(t *testing.T) {
	for name, write := range writers() {
		room := bytes.Repeat([]byte{'r'}, 64)
		b := room[:3]
		x, y := write(b), write(b)
		was := string(y)
		for i := range x[:cap(x)] {
			x[:cap(x)][i] = 'x'
		}
		if string(room) != strings.Repeat("r", 64) {
			t.Errorf("P2: %s changed what it was handed: %q", name, room)
		}
		for i := range room {
			room[i] = 'c'
		}
		if string(y) != was {
			t.Errorf("P2: %s shares what it answered: %q", name, y)
		}
	}
}

// reads are the three ways of reading: whether each answered its zero value.
func reads() map[string]func(r *code.Reader) bool {
	return map[string]func(r *code.Reader) bool{
		"Int":  func(r *code.Reader) bool { return r.Int() == 0 },
		"Byte": func(r *code.Reader) bool { return r.Byte() == 0 },
		"Text": func(r *code.Reader) bool { return r.Text() == "" },
	}
}

// allZero asks each way of reading twice.
func allZero(t *testing.T, what string, r *code.Reader) {
	t.Helper()
	for range 2 {
		for name, zero := range reads() {
			if !zero(r) {
				t.Errorf("%s: %s answers something behind an error", what, name)
			}
		}
	}
}

func TestP102Reads(t *testing.T) {
	r := code.New([]byte("\xfe\xff\xff\xff\xff\xff\xff\xff\xff\x02\x00hi\x00\x80"))
	if n := r.Int(); n != -2 {
		t.Errorf("Int: %d", n)
	}
	if n := r.Byte(); n != 255 {
		t.Errorf("Byte: %d", n)
	}
	if s := r.Text(); s != "hi" {
		t.Errorf("Text: %q", s)
	}
	if n := r.Byte(); n != 0 {
		t.Errorf("Byte: %d", n)
	}
	if e := r.End(); e != api.ErrMore {
		t.Errorf("End ahead of the last byte: %v", e)
	}
	if n := r.Byte(); n != 128 {
		t.Errorf("Byte behind End: %d", n)
	}
	if e := r.End(); e != api.OK {
		t.Errorf("End: %v", e)
	}
}

func TestP102Empty(t *testing.T) {
	for _, b := range [][]byte{nil, {}} {
		if e := code.New(b).End(); e != api.OK {
			t.Errorf("End of nothing: %v", e)
		}
		for name, zero := range reads() {
			r := code.New(b)
			if !zero(r) || r.End() != api.ErrCut {
				t.Errorf("%s of nothing: %v", name, r.End())
			}
		}
	}
}

func TestP102IntIsCut(t *testing.T) {
	for n := range 8 {
		r := code.New(bytes.Repeat([]byte{1}, n))
		if got := r.Int(); got != 0 || r.End() != api.ErrCut {
			t.Errorf("%d bytes: %d, %v", n, got, r.End())
		}
		allZero(t, "a number that is cut", r)
		if e := r.End(); e != api.ErrCut {
			t.Errorf("%d bytes, End again: %v", n, e)
		}
	}
}

func TestP102TextIsCut(t *testing.T) {
	for _, b := range []string{"", "\x01", "\x01\x00", "\x03\x00ab", "\x00\x01" + strings.Repeat("x", 255), "\xff\xff" + strings.Repeat("x", 65534)} {
		r := code.New([]byte(b))
		if s := r.Text(); s != "" || r.End() != api.ErrCut {
			t.Errorf("%d bytes: %q, %v", len(b), s, r.End())
		}
		allZero(t, "a text that is cut", r)
	}
}

func TestP102Fail(t *testing.T) {
	b := code.Int(nil, 7)
	r := code.New(b)
	r.Fail(api.ErrBad)
	r.Fail(api.ErrKind)
	r.Fail(api.OK)
	allZero(t, "Fail", r)
	if e := r.End(); e != api.ErrBad {
		t.Errorf("the first error is kept: %v", e)
	}
	r = code.New(b)
	r.Fail(api.OK)
	if n := r.Int(); n != 7 || r.End() != api.OK {
		t.Errorf("OK is none: %d, %v", n, r.End())
	}
	r.Fail(api.ErrSum)
	if e := r.End(); e != api.ErrSum {
		t.Errorf("Fail behind the last byte: %v", e)
	}
	r = code.New(b[:3])
	r.Int()
	r.Fail(api.ErrBad)
	if e := r.End(); e != api.ErrCut {
		t.Errorf("Fail behind ErrCut: %v", e)
	}
}

func TestP102EndOfWhatIsLeft(t *testing.T) {
	r := code.New([]byte("\x05\x06"))
	for range 2 {
		if e := r.End(); e != api.ErrMore {
			t.Errorf("bytes are left: %v", e)
		}
	}
	if n := r.Byte(); n != 5 {
		t.Errorf("ErrMore is no error of the reader's: %d", n)
	}
	r.Fail(api.ErrOver)
	if e := r.End(); e != api.ErrOver {
		t.Errorf("its own error is ahead of ErrMore: %v", e)
	}
}

func TestP102KeepsNothingOfItsCaller(t *testing.T) {
	b := []byte("\x02\x00hi\x09")
	was := bytes.Clone(b)
	r := code.New(b)
	if s := r.Text(); s != "hi" || !bytes.Equal(b, was) {
		t.Errorf("P2: %q, %x", s, b)
	}
	b[4] = 1
	if n := r.Byte(); n != 9 {
		t.Errorf("P2: what was handed in is kept: %d", n)
	}
}

func TestP102SideBySide(t *testing.T) {
	b := []byte{1, 2}
	x, y := code.New(b), code.New(b)
	x.Fail(api.ErrBad)
	if n := y.Byte(); n != 1 || y.End() != api.ErrMore || x.End() != api.ErrBad {
		t.Errorf("P7: %d, %v, %v", n, y.End(), x.End())
	}
}

func TestP103EachAlone(t *testing.T) {
	for shift := range 64 {
		for _, n := range []int{1 << shift, 1<<shift - 1, -1 << shift, ^(1 << shift)} {
			r := code.New(code.Int(nil, n))
			if got := r.Int(); got != n || r.End() != api.OK {
				t.Errorf("%d: %d, %v", n, got, r.End())
			}
		}
	}
	for n := range 256 {
		r := code.New(code.Byte(nil, n))
		if got := r.Byte(); got != n || r.End() != api.OK {
			t.Errorf("%d: %d, %v", n, got, r.End())
		}
	}
	for _, n := range []int{0, 1, 2, 255, 256, 257, 32767, 32768, 65534, 65535} {
		s := strings.Repeat("\x00\xff\xc3x", n)[:n]
		r := code.New(code.Text(nil, s))
		if got := r.Text(); got != s || r.End() != api.OK {
			t.Errorf("a text of %d bytes: %d bytes, %v", n, len(got), r.End())
		}
	}
}

func TestP103OneBehindTheOther(t *testing.T) {
	var b []byte
	for n := range 300 {
		b = code.Int(b, n*n*n*7919-1<<20)
		b = code.Byte(b, n)
		b = code.Text(b, strings.Repeat(string(rune(n)), n%5))
	}
	r := code.New(b)
	for n := range 300 {
		if got := r.Int(); got != n*n*n*7919-1<<20 {
			t.Fatalf("number %d: %d", n, got)
		}
		if got := r.Byte(); got != n&255 {
			t.Fatalf("byte %d: %d", n, got)
		}
		if got := r.Text(); got != strings.Repeat(string(rune(n)), n%5) {
			t.Fatalf("text %d: %q", n, got)
		}
	}
	if e := r.End(); e != api.OK {
		t.Errorf("End: %v", e)
	}
}
