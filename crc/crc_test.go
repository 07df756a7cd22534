package crc_test

import (
	"bytes"
	"hash/crc32"
	"strings"
	"testing"

	"solenoid/api"
	"solenoid/crc"
)

// mixed is n bytes in which no short pattern comes back.
func mixed(n int) []byte {
	b := make([]byte, n)
	for i := range b {
		b[i] = byte(i*i*7 + i/3 + i>>8)
	}
	return b
}

func TestP201Known(t *testing.T) {
	for _, c := range []struct {
		s    string
		want uint32
	}{
		{"", 0},
		{"\x00", 0xD202EF8D},
		{"\xff", 0xFF000000},
		{"a", 0xE8B7BE43},
		{"abc", 0x352441C2},
		{"123456789", 0xCBF43926},
		{"The quick brown fox jumps over the lazy dog", 0x414FA339},
		{strings.Repeat("\x00", 32), 0x190A55AD},
		{strings.Repeat("\xff", 32), 0xFF6CAB0B},
	} {
		if got := crc.Sum([]byte(c.s)); got != c.want {
			t.Errorf("Sum(%q): %#x", c.s, got)
		}
	}
}

func TestP201EachByte(t *testing.T) {
	for n := range 256 {
		for _, b := range [][]byte{{byte(n)}, {byte(n), 0}, {0, byte(n)}, {0xff, byte(n), 0xff}} {
			if got, want := crc.Sum(b), crc32.ChecksumIEEE(b); got != want {
				t.Errorf("Sum(%x): %#x", b, got)
			}
		}
	}
}

func TestP201Long(t *testing.T) {
	for _, n := range []int{6, 16, 255, 256, 1018, 65535, 65536, 70000, 1 << 20} {
		b := mixed(n)
		if got, want := crc.Sum(b), crc32.ChecksumIEEE(b); got != want {
			t.Errorf("Sum of %d bytes: %#x", n, got)
		}
	}
}

func TestP201Parts(t *testing.T) {
	if got := crc.Sum([]byte("1234"), []byte("56789")); got != 0xCBF43926 {
		t.Errorf("the chapter's example: %#x", got)
	}
	for _, parts := range [][][]byte{nil, {}, {nil}, {{}}, {nil, {}, nil}} {
		if got := crc.Sum(parts...); got != 0 {
			t.Errorf("of %d parts with nothing in them: %#x", len(parts), got)
		}
	}
	b := mixed(60)
	want := crc32.ChecksumIEEE(b)
	for i := range len(b) + 1 {
		for j := i; j <= len(b); j++ {
			if got := crc.Sum(b[:i], nil, b[i:j], []byte{}, b[j:]); got != want {
				t.Fatalf("parted at %d and %d: %#x", i, j, got)
			}
		}
	}
	var single [][]byte
	for i := range b {
		single = append(single, b[i:i+1])
	}
	if got := crc.Sum(single...); got != want {
		t.Errorf("byte by byte: %#x", got)
	}
}

func TestP201PartsInOrder(t *testing.T) {
	x, y := []byte("one"), []byte("two")
	if crc.Sum(x, y) == crc.Sum(y, x) || crc.Sum(x, y) == crc.Sum(x)^crc.Sum(y) {
		t.Error("the order of the parts counts")
	}
	if crc.Sum(x, x) != crc32.ChecksumIEEE([]byte("oneone")) {
		t.Error("a part counts as often as it is handed in")
	}
}

func TestP201ChangesNothing(t *testing.T) {
	room := mixed(64)
	was := bytes.Clone(room)
	parts := [][]byte{room[:3], room[3:7], nil, room[10:20]}
	x := crc.Sum(parts...)
	y := crc.Sum(parts...)
	if x != y {
		t.Errorf("P3: %#x, %#x", x, y)
	}
	if !bytes.Equal(room, was) || len(parts[0]) != 3 || len(parts[1]) != 4 || parts[2] != nil || len(parts[3]) != 10 {
		t.Error("P2: what was handed in is changed")
	}
}

func TestP202Seal(t *testing.T) {
	for _, c := range []struct{ s, head string }{
		{"", "\x00\x00\x00\x00\x00\x00"},
		{"a", "\x01\x00\x43\xbe\xb7\xe8"},
		{"abc", "\x03\x00\xc2\x41\x24\x35"},
		{"123456789", "\x09\x00\x26\x39\xf4\xcb"},
	} {
		if got := crc.Seal([]byte(c.s)); string(got) != c.head+c.s {
			t.Errorf("Seal(%q): %x", c.s, got)
		}
	}
	for _, n := range []int{2, 255, 256, 257, 1000, 32768, 65534, 65535} {
		b := mixed(n)
		s := crc32.ChecksumIEEE(b)
		want := append([]byte{byte(n), byte(n >> 8), byte(s), byte(s >> 8), byte(s >> 16), byte(s >> 24)}, b...)
		if got := crc.Seal(b); !bytes.Equal(got, want) {
			t.Errorf("Seal of %d bytes: %d bytes", n, len(got))
		}
	}
}

func TestP202SealOfTooMany(t *testing.T) {
	for _, n := range []int{65536, 65537, 70000, 1 << 17, 1<<17 + 65535} {
		if got := crc.Seal(make([]byte, n)); len(got) != 0 {
			t.Errorf("Seal of %d bytes: %d bytes", n, len(got))
		}
	}
}

// refused asks Open for an error, with zero values beside it.
func refused(t *testing.T, what string, b []byte, want api.Errno) {
	t.Helper()
	if x, n, e := crc.Open(b); e != want || len(x) != 0 || n != 0 {
		t.Errorf("%s: %x, %d, %v", what, x, n, e)
	}
}

func TestP202OpenOfTooFew(t *testing.T) {
	refused(t, "nil", nil, api.ErrCut)
	refused(t, "empty", []byte{}, api.ErrCut)
	for _, size := range []int{0, 1, 5, 249, 250, 256, 300} {
		b := crc.Seal(mixed(size))
		for n := range b {
			refused(t, "cut", b[:n], api.ErrCut)
		}
	}
	whole := crc.Seal(mixed(65535))
	for _, n := range []int{6, 255, 65534, 65535, 65536, 65540} {
		refused(t, "cut from 65535", whole[:n], api.ErrCut)
	}
}

func TestP202OpenLooksNotBehindTheLength(t *testing.T) {
	room := crc.Seal([]byte("abcdef"))
	refused(t, "cut, with the rest in its spare room", room[:9], api.ErrCut)
}

func TestP202OpenOfAnotherSum(t *testing.T) {
	for _, s := range []string{"a", "abc", strings.Repeat("\x00", 20), strings.Repeat("xy", 200)} {
		b := crc.Seal([]byte(s))
		for bit := 16; bit < 8*len(b); bit++ {
			bad := bytes.Clone(b)
			bad[bit/8] ^= 1 << (bit % 8)
			refused(t, "a bit turned", bad, api.ErrBad)
			refused(t, "a bit turned, and more behind", append(bad, "more"...), api.ErrBad)
		}
	}
	for bit := range 32 {
		bad := make([]byte, 6)
		bad[2+bit/8] ^= 1 << (bit % 8)
		refused(t, "a sum of nothing that is not nought", bad, api.ErrBad)
	}
}

func TestP202OpenOfAnotherLength(t *testing.T) {
	b := crc.Seal([]byte("abcdef"))
	for n := range 9 {
		bad := append(bytes.Clone(b), "gh"...)
		bad[0] = byte(n)
		if n != 6 {
			refused(t, "another length", bad, api.ErrBad)
		}
	}
	b[1] = 1
	refused(t, "a length whose higher byte is not nought", b, api.ErrCut)
	refused(t, "that, and as many bytes", append(b, mixed(256)...), api.ErrBad)
}

func TestP202OpenCutIsAheadOfBad(t *testing.T) {
	refused(t, "P6", []byte("\x03\x00\x01\x02\x03\x04ab"), api.ErrCut)
	refused(t, "P6", []byte("\x00\x00\x01\x02\x03"), api.ErrCut)
	refused(t, "P6", []byte("\x02\x00\x01\x02\x03\x04ab"), api.ErrBad)
}

func TestP202OpenOfBlank(t *testing.T) {
	for _, n := range []int{1, 5, 6, 16, 1024, 65540} {
		refused(t, "blank", bytes.Repeat([]byte{255}, n), api.ErrCut)
	}
	refused(t, "blank", bytes.Repeat([]byte{255}, 65541), api.ErrBad)
	refused(t, "blank", bytes.Repeat([]byte{255}, 70000), api.ErrBad)
}

func TestP202OpenOfAnything(t *testing.T) {
	for n := range 2000 {
		b := mixed(n)[n/2:]
		was := bytes.Clone(b)
		if x, k, e := crc.Open(b); (e == api.OK) != (k >= 6) || k > len(b) || len(x) != max(k-6, 0) {
			t.Errorf("P1: %d, %v", k, e)
		}
		if !bytes.Equal(b, was) {
			t.Fatal("P2: what was handed in is changed")
		}
	}
}

func TestP202AnswersAreNew(t *testing.T) {
	room := bytes.Repeat([]byte{'r'}, 64)
	for _, n := range []int{0, 3, 64} {
		x, y := crc.Seal(room[:n]), crc.Seal(room[:n])
		spoil(x)
		if string(room) != strings.Repeat("r", 64) {
			t.Fatalf("P2: Seal shares what it was handed: %q", room)
		}
		was := bytes.Clone(y)
		o, _, _ := crc.Open(y)
		p, k, e := crc.Open(y)
		spoil(o)
		if !bytes.Equal(y, was) || string(p) != strings.Repeat("r", n) || k != n+6 || e != api.OK {
			t.Errorf("P2: Open shares what it was handed: %x, %q", y, p)
		}
		spoil(y)
		if string(p) != strings.Repeat("r", n) {
			t.Errorf("P2: Open keeps what it was handed: %q", p)
		}
	}
}

// spoil overwrites bytes and their spare room.
func spoil(b []byte) {
	b = b[:cap(b)]
	for i := range b {
		b[i] = 'x'
	}
}

func TestP202NilIsEmpty(t *testing.T) {
	if !bytes.Equal(crc.Seal(nil), crc.Seal([]byte{})) {
		t.Error("P2: nil and empty are not the same")
	}
}

func TestP203OpensWhatWasSealed(t *testing.T) {
	behind := []string{"", "\x00", "\xff", "more", strings.Repeat("\xff", 16), strings.Repeat("\x00", 300), string(crc.Seal([]byte("next")))}
	for _, n := range []int{0, 1, 2, 5, 6, 7, 255, 256, 257, 1018, 32768, 65534, 65535} {
		for _, b := range [][]byte{mixed(n), make([]byte, n), bytes.Repeat([]byte{255}, n)} {
			for _, more := range behind {
				x, k, e := crc.Open(append(crc.Seal(b), more...))
				if e != api.OK || k != n+6 || !bytes.Equal(x, b) {
					t.Errorf("%d bytes, %d behind: %d bytes, %d, %v", n, len(more), len(x), k, e)
				}
			}
		}
	}
}

func TestP203OneBehindTheOther(t *testing.T) {
	var b []byte
	for n := range 300 {
		b = append(b, crc.Seal(mixed(n))...)
	}
	for n := range 300 {
		x, k, e := crc.Open(b)
		if e != api.OK || !bytes.Equal(x, mixed(n)) {
			t.Fatalf("record %d: %d bytes, %v", n, len(x), e)
		}
		b = b[k:]
	}
	refused(t, "behind the last one", b, api.ErrCut)
}

func TestP203SealedTwice(t *testing.T) {
	inner := crc.Seal([]byte("abc"))
	x, _, e := crc.Open(crc.Seal(inner))
	if e != api.OK || !bytes.Equal(x, inner) {
		t.Fatalf("%x, %v", x, e)
	}
	if y, n, e := crc.Open(x); e != api.OK || string(y) != "abc" || n != 9 {
		t.Errorf("%q, %d, %v", y, n, e)
	}
}
