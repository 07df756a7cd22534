package sha_test

import (
	"bytes"
	"crypto/sha256"
	"encoding/hex"
	"strings"
	"testing"

	"solenoid/api"
	"solenoid/sha"
)

// mixed is n bytes in which no short pattern comes back.
func mixed(n int) []byte {
	b := make([]byte, n)
	for i := range b {
		b[i] = byte(i*i*7 + i/3 + i>>8)
	}
	return b
}

// same asks for the sum of parts, and holds it against the one of the standard library.
func same(t *testing.T, what string, parts ...[]byte) {
	t.Helper()
	if got, want := sha.Sum(parts...), sha256.Sum256(bytes.Join(parts, nil)); got != api.Hash(want) {
		t.Errorf("%s: %x, and not %x", what, got, want)
	}
}

func TestP301Known(t *testing.T) {
	for _, c := range []struct{ s, want string }{
		{"", "e3b0c44298fc1c149afbf4c8996fb92427ae41e4649b934ca495991b7852b855"},
		{"abc", "ba7816bf8f01cfea414140de5dae2223b00361a396177a9cb410ff61f20015ad"},
		{"abcdbcdecdefdefgefghfghighijhijkijkljklmklmnlmnomnopnopq", "248d6a61d20638b8e5c026930c3e6039a33ce45964ff2167f6ecedd419db06c1"},
		{"abcdefghbcdefghicdefghijdefghijkefghijklfghijklmghijklmnhijklmnoijklmnopjklmnopqklmnopqrlmnopqrsmnopqrstnopqrstu", "cf5b16a778af8380036ce59e7b0492370b249b11e8f07a51afac45037afee9d1"},
		{"\xbd", "68325720aabd7c82f30f554b313d0570c95accbb7dc4b5aae11204c08ffe732b"},
		{strings.Repeat("a", 1000000), "cdc76e5c9914fb9281a1c7e284d73e67f1809a48a497200e046d39ccc7112cd0"},
	} {
		if got := sha.Hex(sha.Sum([]byte(c.s))); got != c.want {
			t.Errorf("of %d bytes: %s", len(c.s), got)
		}
	}
}

func TestP301EachLength(t *testing.T) {
	for n := range 400 {
		same(t, "mixed", mixed(n))
		same(t, "noughts", make([]byte, n))
		same(t, "blank", bytes.Repeat([]byte{255}, n))
	}
}

func TestP301Long(t *testing.T) {
	for _, n := range []int{1000, 8191, 8192, 65535, 65536, 1<<16 + 55, 1<<16 + 56, 1 << 21, 1<<21 + 1} {
		same(t, "long", mixed(n))
	}
}

// TestP301VeryLong: of so many bits that their count takes more than 32.
func TestP301VeryLong(t *testing.T) {
	part, parts := make([]byte, 1<<20), make([][]byte, 1<<9+1)
	want := sha256.New()
	for i := range parts {
		parts[i] = part
		want.Write(part)
	}
	if got := sha.Sum(parts...); !bytes.Equal(got[:], want.Sum(nil)) {
		t.Errorf("%x", got)
	}
}

func TestP301EachByte(t *testing.T) {
	for n := range 256 {
		for at := range 65 {
			b := mixed(65)
			b[at] = byte(n)
			same(t, "a byte", b)
		}
	}
}

func TestP301BlocksThatComeBack(t *testing.T) {
	blocks := [][]byte{make([]byte, 64), bytes.Repeat([]byte{255}, 64), mixed(64), mixed(128)[64:]}
	for i := range 256 {
		same(t, "four blocks", blocks[i&3], blocks[i>>2&3], blocks[i>>4&3], blocks[i>>6&3])
	}
	for at := range 64 {
		b := mixed(64)
		b[at] ^= 1
		same(t, "a block that is another in one bit", mixed(64), b, mixed(64))
	}
}

func TestP301BlockLikeTheLast(t *testing.T) {
	like := make([]byte, 64)
	like[0], like[62] = 0x80, 2
	same(t, "one that ends as it will be ended", like)
	like[62] = 4
	same(t, "two of them", like, like)
}

func TestP301Hex(t *testing.T) {
	if got := sha.Hex(api.Hash{}); got != strings.Repeat("0", 64) {
		t.Errorf("of noughts: %s", got)
	}
	for n := range 256 {
		var h api.Hash
		for i := range h {
			h[i] = byte(n)
		}
		if got := sha.Hex(h); got != hex.EncodeToString(h[:]) {
			t.Errorf("of %d: %s", n, got)
		}
	}
	for at := range 32 {
		var h api.Hash
		h[at] = 0xAF
		if got := sha.Hex(h); got != strings.Repeat("00", at)+"af"+strings.Repeat("00", 31-at) {
			t.Errorf("at %d: %s", at, got)
		}
	}
	if got := sha.Hex(sha.Sum([]byte("a"), []byte("bc"))); !strings.HasPrefix(got, "ba7816bf") || len(got) != 64 {
		t.Errorf("the chapter's example: %s", got)
	}
}

func TestP302Nothing(t *testing.T) {
	want := api.Hash(sha256.Sum256(nil))
	for _, parts := range [][][]byte{nil, {}, {nil}, {{}}, {nil, {}, nil}} {
		if got := sha.Sum(parts...); got != want {
			t.Errorf("of %d parts with nothing in them: %x", len(parts), got)
		}
	}
}

func TestP302TwoCuts(t *testing.T) {
	for _, n := range []int{3, 55, 56, 63, 64, 65, 119, 120, 128, 150} {
		b := mixed(n)
		want := api.Hash(sha256.Sum256(b))
		for i := range n + 1 {
			for j := i; j <= n; j++ {
				if got := sha.Sum(b[:i], nil, b[i:j], []byte{}, b[j:]); got != want {
					t.Fatalf("%d bytes, parted at %d and %d: %x", n, i, j, got)
				}
			}
		}
	}
}

func TestP302EvenParts(t *testing.T) {
	b := mixed(1000)
	for size := 1; size <= 200; size++ {
		var parts [][]byte
		for at := 0; at < len(b); at += size {
			parts = append(parts, b[at:min(at+size, len(b))])
		}
		same(t, "even parts", parts...)
	}
}

func TestP302OrderCounts(t *testing.T) {
	x, y := []byte("one"), []byte("two")
	if sha.Sum(x, y) == sha.Sum(y, x) || sha.Sum(x, x) == sha.Sum(x) {
		t.Error("the order of the parts counts, and how often one is handed in")
	}
	same(t, "twice", x, x)
}

func TestP301ChangesNothing(t *testing.T) {
	room := mixed(300)
	was := bytes.Clone(room)
	parts := [][]byte{room[:3], room[3:70], nil, room[100:164]}
	x := sha.Sum(parts...)
	y := sha.Sum(parts...)
	if x != y {
		t.Errorf("P3: %x, %x", x, y)
	}
	if !bytes.Equal(room, was) || len(parts[0]) != 3 || len(parts[1]) != 67 || parts[2] != nil || len(parts[3]) != 64 {
		t.Error("P2: what was handed in is changed")
	}
	kept := sha.Hex(x)
	x[0] ^= 255
	if sha.Hex(y) != kept || sha.Sum(parts...) != y {
		t.Error("P2: an answer is shared")
	}
}
