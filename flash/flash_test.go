package flash_test

import (
	"bytes"
	"math"
	"testing"

	"solenoid/api"
	"solenoid/flash"
)

const size = api.Pages * api.Page

func filled(b byte, n int) []byte { return bytes.Repeat([]byte{b}, n) }

// mixed is n bytes in which no short pattern comes back.
func mixed(n int) []byte {
	b := make([]byte, n)
	for i := range b {
		b[i] = byte(i*i*7 + i/3 + i>>8)
	}
	return b
}

// all is what every sector has.
func all(f *flash.Flash) []byte {
	var b []byte
	for s := range api.Sectors {
		b = append(b, f.Read(s)...)
	}
	return b
}

// spoil overwrites bytes and their spare room.
func spoil(b []byte) {
	b = b[:cap(b)]
	for i := range b {
		b[i] = 0x55
	}
}

// must asks for an answer.
func must(t *testing.T, what string, got, want api.Errno) {
	t.Helper()
	if got != want {
		t.Errorf("%s: %v, and not %v", what, got, want)
	}
}

// has asks for a page's bytes.
func has(t *testing.T, what string, f *flash.Flash, sector, page int, want []byte) {
	t.Helper()
	if got := f.Read(sector)[page*api.Page:][:api.Page]; !bytes.Equal(got, want) {
		t.Errorf("%s: sector %d, page %d: %x, and not %x", what, sector, page, got, want)
	}
}

// same asks that no call from was on could have told a change.
func same(t *testing.T, what string, f *flash.Flash, was []byte, ops int, dead bool) {
	t.Helper()
	if !bytes.Equal(all(f), was) || f.Ops() != ops || f.Dead() != dead {
		t.Errorf("%s: something is changed: %d operations, dead: %v", what, f.Ops(), f.Dead())
	}
}

// written is a memory whose bytes are all noughts, and how many operations that took.
func written(t *testing.T) (*flash.Flash, int) {
	t.Helper()
	f := flash.New()
	for s := range api.Sectors {
		for p := range api.Pages {
			must(t, "Program", f.Program(s, p, make([]byte, api.Page)), api.OK)
		}
	}
	return f, api.Sectors * api.Pages
}

var noSectors = []int{-1, 6, 7, 64, -6, 1 << 32, math.MaxInt, math.MinInt}

var noPages = []int{-1, 64, 65, 128, -64, 1 << 32, math.MaxInt, math.MinInt}

func TestP401New(t *testing.T) {
	f := flash.New()
	same(t, "a new memory", f, filled(255, api.Sectors*size), 0, false)
	for s := range api.Sectors {
		if n := len(f.Read(s)); n != 1024 {
			t.Errorf("sector %d: %d bytes", s, n)
		}
	}
}

func TestP401Read(t *testing.T) {
	f := flash.New()
	for _, s := range noSectors {
		if b := f.Read(s); len(b) != 0 {
			t.Errorf("sector %d: %d bytes", s, len(b))
		}
	}
	must(t, "Program", f.Program(3, 4, []byte("kept")), api.OK)
	x, y := f.Read(3), f.Read(3)
	spoil(x)
	if !bytes.Equal(y, f.Read(3)) || string(y[64:68]) != "kept" {
		t.Error("P2: Read shares what it answers")
	}
	f.Stop(1, nil)
	must(t, "Erase", f.Erase(0), api.ErrDead)
	if !bytes.Equal(y, f.Read(3)) || len(f.Read(6)) != 0 {
		t.Error("Read is the same without power")
	}
}

func TestP401Erase(t *testing.T) {
	for s := range api.Sectors {
		f, n := written(t)
		must(t, "Erase", f.Erase(s), api.OK)
		want := make([]byte, api.Sectors*size)
		copy(want[s*size:], filled(255, size))
		same(t, "Erase", f, want, n+1, false)
		must(t, "Erase again", f.Erase(s), api.OK)
		same(t, "Erase again", f, want, n+2, false)
	}
}

func TestP401EraseOfNoSector(t *testing.T) {
	f, n := written(t)
	was := all(f)
	for _, s := range noSectors {
		must(t, "Erase", f.Erase(s), api.ErrAddr)
	}
	same(t, "Erase of no sector", f, was, n, false)
}

func TestP401Program(t *testing.T) {
	for s := range api.Sectors {
		for p := range api.Pages {
			f := flash.New()
			b := mixed(s + p + api.Page)[s+p:]
			must(t, "Program", f.Program(s, p, b), api.OK)
			want := filled(255, api.Sectors*size)
			copy(want[s*size+p*api.Page:], b)
			same(t, "Program", f, want, 1, false)
		}
	}
}

func TestP401ProgramOfFewer(t *testing.T) {
	for n := range api.Page + 1 {
		f := flash.New()
		b := filled(0x5a, n)
		must(t, "Program", f.Program(1, 7, b), api.OK)
		has(t, "255 behind", f, 1, 7, append(b, filled(255, api.Page-n)...))
	}
	f := flash.New()
	must(t, "Program of nil", f.Program(0, 0, nil), api.OK)
	must(t, "Program of nothing", f.Program(0, 0, []byte{}), api.OK)
	same(t, "Program of nothing", f, filled(255, api.Sectors*size), 2, false)
}

func TestP401ProgramOfNoPlace(t *testing.T) {
	f := flash.New()
	for _, s := range noSectors {
		must(t, "no sector", f.Program(s, 0, []byte{1}), api.ErrAddr)
	}
	for _, p := range noPages {
		must(t, "no page", f.Program(0, p, []byte{1}), api.ErrAddr)
		must(t, "no page of the last sector", f.Program(5, p, nil), api.ErrAddr)
	}
	same(t, "no place", f, filled(255, api.Sectors*size), 0, false)
}

func TestP401ProgramOfTooMany(t *testing.T) {
	f := flash.New()
	for _, n := range []int{17, 18, 32, 255, 256, 272, 1024, 1 << 20} {
		must(t, "too long", f.Program(0, 0, make([]byte, n)), api.ErrLong)
		must(t, "too long, and all blank", f.Program(0, 63, filled(255, n)), api.ErrLong)
	}
	same(t, "too long", f, filled(255, api.Sectors*size), 0, false)
}

func TestP401ProgramSets(t *testing.T) {
	f := flash.New()
	must(t, "of 15", f.Program(0, 0, []byte{15}), api.OK)
	must(t, "the chapter's example", f.Program(0, 0, []byte{255}), api.ErrSet)
	for at := range api.Page {
		for bit := range 8 {
			f := flash.New()
			page := filled(255, api.Page)
			page[at] &^= 1 << bit
			must(t, "a bit cleared", f.Program(2, 9, page), api.OK)
			must(t, "it again", f.Program(2, 9, page), api.OK)
			must(t, "that bit set", f.Program(2, 9, filled(255, api.Page)), api.ErrSet)
			must(t, "that bit set, by what stands behind", f.Program(2, 9, page[:at]), api.ErrSet)
			rest := make([]byte, api.Page)
			rest[at] = 1 << bit
			must(t, "that bit set, the others cleared", f.Program(2, 9, rest), api.ErrSet)
			has(t, "ErrSet", f, 2, 9, page)
			if f.Ops() != 2 {
				t.Errorf("P5: ErrSet is counted: %d", f.Ops())
			}
		}
	}
}

func TestP401OrderOfErrors(t *testing.T) {
	f, n := written(t)
	was := all(f)
	long := make([]byte, 17)
	must(t, "no sector, and too long", f.Program(6, 0, long), api.ErrAddr)
	must(t, "no page, and too long", f.Program(0, 64, long), api.ErrAddr)
	must(t, "too long, and bits are set", f.Program(0, 0, filled(255, 17)), api.ErrLong)
	must(t, "bits are set", f.Program(0, 0, filled(255, 16)), api.ErrSet)
	same(t, "P5", f, was, n, false)
	f.Stop(1, nil)
	must(t, "Stop", f.Erase(0), api.ErrDead)
	for _, s := range []int{-1, 0, 5, 6} {
		must(t, "Erase without power", f.Erase(s), api.ErrDead)
		for _, p := range []int{-1, 0, 63, 64} {
			for _, b := range [][]byte{nil, {0}, {1}, long} {
				must(t, "Program without power", f.Program(s, p, b), api.ErrDead)
			}
		}
	}
	same(t, "without power", f, was, n+1, true)
}

func TestP401KeepsNothingOfItsCaller(t *testing.T) {
	f := flash.New()
	room := filled('r', 64)
	must(t, "Program", f.Program(4, 1, room[:3]), api.OK)
	if !bytes.Equal(room, filled('r', 64)) {
		t.Errorf("P2: Program changed what it was handed: %q", room)
	}
	spoil(room)
	has(t, "P2: what was handed in is kept", f, 4, 1, append([]byte("rrr"), filled(255, 13)...))
}

func TestP402Ops(t *testing.T) {
	f := flash.New()
	steps := []struct {
		do   func() api.Errno
		want api.Errno
		ops  int
	}{
		{func() api.Errno { return f.Erase(0) }, api.OK, 1},
		{func() api.Errno { return f.Program(0, 0, []byte{1}) }, api.OK, 2},
		{func() api.Errno { return f.Program(0, 0, []byte{1}) }, api.OK, 3},
		{func() api.Errno { return f.Program(0, 0, []byte{2}) }, api.ErrSet, 3},
		{func() api.Errno { return f.Program(0, 64, []byte{1}) }, api.ErrAddr, 3},
		{func() api.Errno { return f.Program(0, 1, make([]byte, 17)) }, api.ErrLong, 3},
		{func() api.Errno { return f.Erase(6) }, api.ErrAddr, 3},
		{func() api.Errno { return f.Erase(0) }, api.OK, 4},
	}
	for i, s := range steps {
		must(t, "step", s.do(), s.want)
		f.Read(0)
		if f.Ops() != s.ops || f.Dead() {
			t.Errorf("step %d: %d operations", i, f.Ops())
		}
	}
	f.Stop(1, nil)
	must(t, "the one at which it goes", f.Erase(0), api.ErrDead)
	must(t, "behind it", f.Erase(0), api.ErrDead)
	if f.Ops() != 5 {
		t.Errorf("that at which the power goes counts: %d", f.Ops())
	}
	f.Start()
	must(t, "Start", f.Erase(0), api.OK)
	if f.Ops() != 6 {
		t.Errorf("Start forgets none: %d", f.Ops())
	}
}

func TestP402StopAtTheNth(t *testing.T) {
	for n := 1; n <= 70; n++ {
		f := flash.New()
		f.Erase(5)
		f.Stop(n, nil)
		for i := 1; i < n; i++ {
			must(t, "ahead of it", f.Program(0, i%64, []byte{0}), api.OK)
			must(t, "refused", f.Program(0, i%64, []byte{1}), api.ErrSet)
			must(t, "refused", f.Program(6, 0, nil), api.ErrAddr)
			must(t, "refused", f.Program(0, 0, make([]byte, 17)), api.ErrLong)
			must(t, "refused", f.Erase(-1), api.ErrAddr)
		}
		was := all(f)
		same(t, "ahead of it", f, was, n, false)
		must(t, "the n-th", f.Program(1, 0, []byte{0}), api.ErrDead)
		same(t, "the n-th", f, was, n+1, true)
		f.Start()
		for range 2 * n {
			must(t, "it goes but once", f.Erase(0), api.OK)
		}
	}
}

func TestP402StopFarAway(t *testing.T) {
	for _, n := range []int{math.MaxInt, math.MaxInt - 1, 1 << 40, 200} {
		f := flash.New()
		f.Erase(0)
		f.Stop(n, nil)
		for range 199 {
			must(t, "Erase", f.Erase(0), api.OK)
		}
		if f.Dead() {
			t.Errorf("Stop(%d)", n)
		}
	}
}

func TestP402StopBelowOne(t *testing.T) {
	for _, n := range []int{0, -1, -2, math.MinInt, math.MinInt + 1} {
		for _, mask := range [][]byte{nil, {255}} {
			f := flash.New()
			f.Stop(n, mask)
			for range 100 {
				must(t, "none", f.Erase(0), api.OK)
			}
			f.Stop(2, nil)
			f.Stop(n, mask)
			for range 100 {
				must(t, "it takes the place of one ahead", f.Erase(0), api.OK)
			}
		}
	}
}

func TestP402LaterStop(t *testing.T) {
	for _, first := range []int{1, 2, 3, 4, 9} {
		f := flash.New()
		f.Stop(first, []byte{255})
		f.Stop(4, []byte{0x0f})
		must(t, "one ahead", f.Erase(0), api.OK)
		f.Stop(3, []byte{0xf0})
		for p := range 2 {
			must(t, "ahead of it", f.Program(0, p, []byte{0}), api.OK)
		}
		must(t, "the third", f.Program(0, 2, []byte{0}), api.ErrDead)
		has(t, "of the later mask", f, 0, 2, append([]byte{0x0f}, filled(255, 15)...))
	}
}

func TestP402MaskOfProgram(t *testing.T) {
	was := mixed(api.Page)
	next := make([]byte, api.Page)
	for i := range next {
		next[i] = was[i] & byte(0x3c+i*29)
	}
	masks := [][]byte{nil, {}, {0}, {255}, {0x80}, {1}, {0x0f, 0xf0}, {255, 0, 255}, {1, 2, 4, 8, 16, 32, 64, 128}, {0, 0, 0, 0, 0, 0, 0}, mixed(15), mixed(16), mixed(17), mixed(64), mixed(2000)}
	for _, mask := range masks {
		for _, page := range []int{0, 1, 31, 63} {
			f := flash.New()
			must(t, "Program", f.Program(3, page, was), api.OK)
			f.Stop(1, mask)
			must(t, "Program", f.Program(3, page, next), api.ErrDead)
			want := bytes.Clone(was)
			for i := range want {
				if len(mask) > 0 {
					want[i] = was[i]&^mask[i%len(mask)] | next[i]&mask[i%len(mask)]
				}
			}
			has(t, "a part", f, 3, page, want)
			rest := f.Read(3)
			copy(rest[page*api.Page:], filled(255, api.Page))
			if !bytes.Equal(rest, filled(255, size)) {
				t.Errorf("another page is touched, mask %x", mask)
			}
		}
	}
}

func TestP402MaskOfErase(t *testing.T) {
	masks := [][]byte{nil, {}, {0}, {255}, {0x80}, {0x0f, 0xf0}, {255, 15, 0}, mixed(16), mixed(17), mixed(1000), mixed(1023), mixed(1024), mixed(1025), mixed(1500), mixed(70000)}
	for _, mask := range masks {
		for s := range api.Sectors {
			f, n := written(t)
			f.Stop(1, mask)
			must(t, "Erase", f.Erase(s), api.ErrDead)
			want := make([]byte, api.Sectors*size)
			for i := range size {
				if len(mask) > 0 {
					want[s*size+i] = mask[i%len(mask)]
				}
			}
			same(t, "a part", f, want, n+1, true)
		}
	}
}

func TestP402MaskOfEraseSetsAlone(t *testing.T) {
	f := flash.New()
	must(t, "Program", f.Program(0, 1, []byte{0x5a, 0x00, 0xff, 0x0f}), api.OK)
	f.Stop(1, []byte{0x33})
	must(t, "Erase", f.Erase(0), api.ErrDead)
	has(t, "bits that are set stay", f, 0, 1, append([]byte{0x7b, 0x33, 0xff, 0x3f}, filled(255, 12)...))
}

// TestP402AsTheReadmeTells: the calls that README.md shows.
func TestP402AsTheReadmeTells(t *testing.T) {
	f := flash.New()
	must(t, "Program", f.Program(0, 2, []byte{15}), api.OK)
	must(t, "Program", f.Program(0, 2, []byte{255}), api.ErrSet)
	f.Stop(1, []byte{0x80})
	must(t, "Erase", f.Erase(0), api.ErrDead)
	has(t, "the highest bit alone", f, 0, 2, append([]byte{0x8f}, filled(255, 15)...))
}

func TestP402AllOfItDone(t *testing.T) {
	f := flash.New()
	f.Stop(1, []byte{255})
	must(t, "Program", f.Program(0, 0, []byte("whole")), api.ErrDead)
	has(t, "all bits", f, 0, 0, append([]byte("whole"), filled(255, 11)...))
	f.Start()
	f.Stop(1, []byte{255, 255})
	must(t, "Program that changes nothing", f.Program(0, 0, []byte("whole")), api.ErrDead)
	if f.Ops() != 2 || !f.Dead() {
		t.Errorf("it counts, and the power goes: %d, %v", f.Ops(), f.Dead())
	}
}

func TestP402MaskIsKeptAsItWas(t *testing.T) {
	room := bytes.Repeat([]byte{0x0f}, 8)
	mask := room[:2]
	f := flash.New()
	f.Stop(3, mask)
	f.Erase(1)
	f.Program(1, 1, []byte{0})
	if !bytes.Equal(room, filled(0x0f, 8)) {
		t.Errorf("P2: Stop changed what it was handed: %x", room)
	}
	spoil(room)
	must(t, "Program", f.Program(0, 0, make([]byte, 16)), api.ErrDead)
	has(t, "the mask at the call", f, 0, 0, filled(0xf0, 16))
	if !bytes.Equal(room, filled(0x55, 8)) {
		t.Errorf("P2: a mask that was handed in is changed: %x", room)
	}
}

func TestP402Start(t *testing.T) {
	f := flash.New()
	f.Start()
	same(t, "Start with power", f, filled(255, api.Sectors*size), 0, false)
	f.Stop(1, nil)
	f.Start()
	must(t, "Start takes a Stop back", f.Erase(0), api.OK)
	f.Stop(2, nil)
	f.Erase(0)
	f.Start()
	for range 10 {
		must(t, "one that is under way", f.Erase(0), api.OK)
	}
	f.Stop(1, nil)
	must(t, "Stop", f.Erase(0), api.ErrDead)
	f.Stop(1, []byte{255})
	if !f.Dead() {
		t.Error("Stop is no Start")
	}
	must(t, "Stop without power", f.Erase(0), api.ErrDead)
	f.Stop(0, nil)
	must(t, "Stop of none without power", f.Erase(0), api.ErrDead)
	f.Stop(3, nil)
	f.Start()
	f.Start()
	for range 10 {
		must(t, "Stop without power is taken back, too", f.Erase(0), api.OK)
	}
	if f.Dead() {
		t.Error("Start")
	}
}

func TestP402PowerGoesAgain(t *testing.T) {
	f := flash.New()
	for n := range 20 {
		f.Stop(2, nil)
		must(t, "ahead of it", f.Program(2, n, []byte{byte(n)}), api.OK)
		must(t, "it", f.Erase(2), api.ErrDead)
		if !f.Dead() || f.Ops() != 2*n+2 {
			t.Fatalf("%d: %v, %d", n, f.Dead(), f.Ops())
		}
		f.Start()
		if f.Dead() {
			t.Fatalf("%d: Start", n)
		}
		has(t, "what was written stays", f, 2, n, append([]byte{byte(n)}, filled(255, 15)...))
	}
}

func TestP402MaskIsForgotten(t *testing.T) {
	f := flash.New()
	f.Stop(1, []byte{255})
	f.Start()
	f.Stop(1, nil)
	must(t, "Program", f.Program(0, 0, []byte{0}), api.ErrDead)
	has(t, "no mask: none", f, 0, 0, filled(255, 16))
}

// clears tells whether every bit that is set was set.
func clears(was, is []byte) bool {
	for i := range is {
		if is[i]&^was[i] != 0 {
			return false
		}
	}
	return true
}

// within tells whether is differs from was nowhere but at n bytes from at on.
func within(was, is []byte, at, n int) bool {
	return bytes.Equal(was[:at], is[:at]) && bytes.Equal(was[at+n:], is[at+n:])
}

func TestP403ProgramsClear(t *testing.T) {
	f := flash.New()
	for i := range 6000 {
		s, p := i*7%api.Sectors, i*11%api.Pages
		was := all(f)
		next := f.Read(s)[p*api.Page:][:api.Page]
		for k := range next {
			next[k] &= byte(i*31 + k*17 + 128)
		}
		if i%5 == 0 {
			next[i%16]++ // it may be refused
		}
		f.Stop(i%3, mixed(i%20))
		e := f.Program(s, p, next[:16-i%2])
		is := all(f)
		if !clears(was, is) || !within(was, is, s*size+p*api.Page, api.Page) {
			t.Fatalf("%d: Program sets a bit, or touches another page", i)
		}
		if e != api.OK && e != api.ErrDead && !bytes.Equal(was, is) {
			t.Fatalf("%d: %v, and something is changed", i, e)
		}
		f.Start()
		if i%100 == 99 {
			f.Erase(s)
		}
	}
}

func TestP403ErasesSet(t *testing.T) {
	for i := range 200 {
		f := flash.New()
		for s := range api.Sectors {
			for p := range api.Pages {
				f.Program(s, p, mixed(s + p + i + api.Page)[s+p+i:])
			}
		}
		was := all(f)
		s := i % api.Sectors
		f.Stop(i%2, mixed(i))
		f.Erase(s)
		is := all(f)
		if !clears(is, was) || !within(was, is, s*size, size) {
			t.Fatalf("%d: Erase clears a bit, or touches another sector", i)
		}
		f.Start()
		f.Stop(4, nil)
		if !bytes.Equal(all(f), is) {
			t.Fatalf("%d: Start or Stop touches the bytes", i)
		}
	}
}

func TestP403SideBySide(t *testing.T) {
	x, y := flash.New(), flash.New()
	x.Stop(2, []byte{255})
	must(t, "Program", x.Program(0, 0, []byte{0}), api.OK)
	must(t, "Erase", x.Erase(0), api.ErrDead)
	same(t, "P7", y, filled(255, api.Sectors*size), 0, false)
	must(t, "Program", y.Program(0, 0, []byte("y")), api.OK)
	same(t, "P7", x, filled(255, api.Sectors*size), 2, true)
	same(t, "P7", flash.New(), filled(255, api.Sectors*size), 0, false)
}

func TestP403SameCallsSameAnswers(t *testing.T) {
	run := func() []byte {
		f := flash.New()
		var b []byte
		for i := range 2000 {
			if i%37 == 0 {
				f.Start()
				f.Stop(i%29, mixed(i%40))
			}
			e := f.Program(i%7, i*13%65, mixed(i)[max(i-i%18, 0):])
			if i%11 == 0 {
				e += 100 * f.Erase(i%8)
			}
			b = append(b, byte(e), byte(f.Ops()))
		}
		return append(b, all(f)...)
	}
	if !bytes.Equal(run(), run()) {
		t.Error("P3")
	}
}
