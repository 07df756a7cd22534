package record_test

import (
	"bytes"
	"math"
	"slices"
	"testing"

	"solenoid/api"
	"solenoid/crc"
	"solenoid/flash"
	"solenoid/record"
)

const size = api.Pages * api.Page

func filled(b byte, n int) []byte { return bytes.Repeat([]byte{b}, n) }

// mixed is n bytes in which no short pattern comes back.
func mixed(n int) []byte {
	b := make([]byte, n)
	for i := range b {
		b[i] = byte(i*i*7 + i/3 + i>>8)
	}
	return b
}

// all is what every sector has.
func all(f *flash.Flash) []byte {
	var b []byte
	for s := range api.Sectors {
		b = append(b, f.Read(s)...)
	}
	return b
}

// spoil overwrites bytes and their spare room.
func spoil(b []byte) {
	b = b[:cap(b)]
	for i := range b {
		b[i] ^= 0x55
	}
}

// must asks for an answer.
func must(t *testing.T, what string, got, want api.Errno) {
	t.Helper()
	if got != want {
		t.Errorf("%s: %v, and not %v", what, got, want)
	}
}

// loads asks for a sector's records, and its first page behind them.
func loads(t *testing.T, what string, f *flash.Flash, sector, free int, want ...[]byte) {
	t.Helper()
	l, got := record.Load(f, sector)
	if got != free || !slices.EqualFunc(l, want, bytes.Equal) {
		t.Errorf("%s: sector %d: %d records, free %d, and not %d, free %d: %x", what, sector, len(l), got, len(want), free, l)
	}
}

// put writes bytes from a page on, page by page, whatever they say.
func put(t *testing.T, f *flash.Flash, sector, page int, b []byte) {
	t.Helper()
	for len(b) > 0 {
		n := min(len(b), api.Page)
		must(t, "Program", f.Program(sector, page, b[:n]), api.OK)
		b = b[n:]
		page++
	}
}

// with is a memory whose sector has these records.
func with(t *testing.T, sector int, records ...[]byte) *flash.Flash {
	t.Helper()
	f := flash.New()
	for _, b := range records {
		must(t, "Append", record.Append(f, sector, b), api.OK)
	}
	return f
}

// need counts pages one by one.
func need(n int) int {
	k := 0
	for 16*k < n+6 {
		k++
	}
	return k
}

// refused asks Append for an error, and that nothing is changed.
func refused(t *testing.T, what string, f *flash.Flash, sector int, b []byte, want api.Errno) {
	t.Helper()
	was, ops, dead := all(f), f.Ops(), f.Dead()
	must(t, what, record.Append(f, sector, b), want)
	if !bytes.Equal(all(f), was) || f.Ops() != ops || f.Dead() != dead {
		t.Errorf("P5: %s: something is changed", what)
	}
}

var noSectors = []int{-1, 6, 7, 64, -6, 1 << 32, math.MaxInt, math.MinInt}

func TestP501Pages(t *testing.T) {
	for n, want := range map[int]int{0: 1, 1: 1, 9: 1, 10: 1, 11: 2, 25: 2, 26: 2, 27: 3, 42: 3, 43: 4, 1002: 63, 1003: 64, 1018: 64, 1019: 65, 65535: 4097} {
		if got := record.Pages(n); got != want {
			t.Errorf("Pages(%d): %d", n, got)
		}
	}
	for n := range 2000 {
		if got := record.Pages(n); got != need(n) {
			t.Errorf("Pages(%d): %d", n, got)
		}
	}
	for n := 63000; n < 65536; n++ {
		if got := record.Pages(n); got != need(n) {
			t.Errorf("Pages(%d): %d", n, got)
		}
	}
}

func TestP501PagesOfNoLength(t *testing.T) {
	for _, n := range []int{-1, -5, -6, -7, -16, -22, -100, math.MinInt, math.MinInt + 6, 65536, 65537, 65546, 70000, 1 << 32, 1<<32 + 3, math.MaxInt, math.MaxInt - 6, math.MaxInt - 21} {
		if got := record.Pages(n); got != 0 {
			t.Errorf("Pages(%d): %d", n, got)
		}
	}
}

func TestP501NewMemory(t *testing.T) {
	f := flash.New()
	for s := range api.Sectors {
		loads(t, "the chapter's example", f, s, 0)
	}
}

func TestP501NoSector(t *testing.T) {
	f := flash.New()
	for s := range api.Sectors {
		must(t, "Append", record.Append(f, s, []byte("one")), api.OK)
	}
	for _, s := range noSectors {
		loads(t, "no sector", f, s, 0)
	}
}

func TestP501BlankIsTheEnd(t *testing.T) {
	one, two := []byte("one"), []byte("a record of two pages")
	for page := range api.Pages {
		f := flash.New()
		for p := range page {
			put(t, f, 2, p, crc.Seal([]byte{byte(p)}))
		}
		if page < 62 {
			put(t, f, 2, page+1, crc.Seal(one))
			put(t, f, 2, page+2, []byte{0})
		}
		l, free := record.Load(f, 2)
		if len(l) != page || free != page {
			t.Errorf("page %d is blank: %d records, free %d", page, len(l), free)
		}
	}
	f := flash.New()
	put(t, f, 0, 0, crc.Seal(two))
	put(t, f, 0, 3, crc.Seal(one))
	loads(t, "a blank page behind two", f, 0, 2, two)
}

func TestP501BlankIsAll255(t *testing.T) {
	for at := range api.Page {
		for bit := range 8 {
			page := filled(255, api.Page)
			page[at] &^= 1 << bit
			f := flash.New()
			put(t, f, 1, 0, page)
			loads(t, "a page that is not blank by one bit", f, 1, 64)
			f = with(t, 1, []byte("one"))
			put(t, f, 1, 1, page)
			loads(t, "that, behind a record", f, 1, 64, []byte("one"))
		}
	}
}

func TestP501NoRecordIsTheEnd(t *testing.T) {
	one := []byte("one")
	for what, b := range map[string][]byte{
		"another sum":              []byte("\x05\x00\x01\x02\x03\x04hello"),
		"another sum of nothing":   []byte("\x00\x00\x01\x00\x00\x00"),
		"a sum that lacks":         []byte("\x00\x00"),
		"more than the sector has": []byte("\xf0\x03\x00\x00\x00\x00"),
		"65535":                    []byte("\xff\xff\x00\x00\x00\x00"),
		"cut":                      crc.Seal(mixed(40))[:32],
		"not from the first byte":  append([]byte{0}, crc.Seal(one)...),
	} {
		f := flash.New()
		put(t, f, 3, 0, b)
		put(t, f, 3, 3, crc.Seal(one))
		loads(t, what, f, 3, 64)
		f = with(t, 3, one, one)
		put(t, f, 3, 2, b)
		put(t, f, 3, 5, crc.Seal(one))
		loads(t, what+", behind two", f, 3, 64, one, one)
	}
}

func TestP501UpToTheSectorsEnd(t *testing.T) {
	for first := range api.Pages {
		f := flash.New()
		var want [][]byte
		for p := range first {
			put(t, f, 4, p, crc.Seal([]byte{byte(p)}))
			want = append(want, []byte{byte(p)})
		}
		last := mixed((64-first)*16 - 6)
		put(t, f, 4, first, crc.Seal(last))
		loads(t, "all pages are taken", f, 4, 64, append(want, last)...)
		put(t, f, 5, 0, mixed(size)) // what stands in the next sector is not read
		g := flash.New()
		for p := range first {
			put(t, g, 4, p, crc.Seal([]byte{byte(p)}))
		}
		put(t, g, 4, first, crc.Seal(append(last, 1))[:(64-first)*16])
		put(t, g, 5, 0, []byte{1})
		loads(t, "a byte lacks", g, 4, 64, want...)
	}
	if l, free := record.Load(with(t, 0, make([]byte, 1018)), 0); len(l) != 1 || len(l[0]) != 1018 || free != 64 {
		t.Errorf("the longest one: %d, free %d", len(l), free)
	}
}

func TestP501Noughts(t *testing.T) {
	f := flash.New()
	put(t, f, 5, 0, make([]byte, size))
	l, free := record.Load(f, 5)
	if len(l) != 64 || free != 64 {
		t.Fatalf("%d records of nothing, free %d", len(l), free)
	}
	for i, b := range l {
		if len(b) != 0 {
			t.Errorf("record %d: %x", i, b)
		}
	}
}

func TestP501WhatStandsBehindInTheLastPage(t *testing.T) {
	one, two := []byte("one"), []byte("two")
	f := flash.New()
	put(t, f, 0, 0, append(crc.Seal(one), make([]byte, 7)...))
	put(t, f, 0, 1, append(crc.Seal(nil), crc.Seal(two)...))
	put(t, f, 0, 2, crc.Seal(two))
	loads(t, "it does not count", f, 0, 3, one, nil, two)
}

func TestP501WhatStandsWithinARecord(t *testing.T) {
	inner := slices.Concat(filled(1, 10), crc.Seal([]byte("one")), filled(2, 7), filled(255, 32), crc.Seal([]byte("two")), filled(255, 26))
	f := with(t, 1, inner, []byte("behind"))
	loads(t, "pages of a record are not looked at", f, 1, record.Pages(len(inner))+1, inner, []byte("behind"))
	blank := filled(255, 1000)
	loads(t, "blank pages in a record", with(t, 1, blank), 1, 63, blank)
}

func TestP501ChangesNothing(t *testing.T) {
	f := with(t, 2, []byte("one"), []byte("two"))
	f.Stop(1, []byte{255})
	was, ops := all(f), f.Ops()
	for s := -1; s < 7; s++ {
		record.Load(f, s)
	}
	if !bytes.Equal(all(f), was) || f.Ops() != ops || f.Dead() {
		t.Error("Load changes something")
	}
	must(t, "the Stop is set as it was", f.Erase(0), api.ErrDead)
	loads(t, "without power", f, 2, 2, []byte("one"), []byte("two"))
	loads(t, "no sector, without power", f, 6, 0)
}

func TestP501AnswersAreNew(t *testing.T) {
	want := [][]byte{[]byte("one"), nil, mixed(100), []byte("two")}
	f := with(t, 2, want...)
	x, _ := record.Load(f, 2)
	y, _ := record.Load(f, 2)
	for i := range x {
		spoil(x[i])
		for k := range x {
			if k > i && !bytes.Equal(x[k], want[k]) {
				t.Errorf("P2: records %d and %d share", i, k)
			}
		}
	}
	if !slices.EqualFunc(y, want, bytes.Equal) {
		t.Error("P2: two answers share")
	}
	loads(t, "P2: an answer shares with the memory", f, 2, 10, want...)
}

// strange is a sector of whole records, records of which a part lacks, blank pages, and other bytes.
func strange(i int) *flash.Flash {
	f := flash.New()
	for p := range api.Pages {
		switch x := (i*31 + p*p*17 + p*i) % (20 + i%300); x {
		case 0:
			f.Program(0, p, mixed(p + i%16)[p:])
		case 1:
			f.Program(0, p, []byte{byte(i % 40), 0})
		case 2, 3, 4:
			b := crc.Seal(mixed(10 + 16*x - i%16))
			f.Program(0, p, b[:16])
			f.Program(0, p+1, b[16:32])
		default:
			f.Program(0, p, crc.Seal([]byte{byte(i + p)}))
		}
	}
	return f
}

func TestP501OfAnyMemory(t *testing.T) {
	blank, broken, full := 0, 0, 0
	for i := range 3000 {
		f := strange(i)
		b := append(f.Read(0), filled(255, 16)...)
		l, free := record.Load(f, 0)
		at := 0
		for _, x := range l {
			if !bytes.HasPrefix(b[16*at:], crc.Seal(x)) {
				t.Fatalf("%d: page %d has another record", i, at)
			}
			at += need(len(x))
		}
		_, _, e := crc.Open(b[16*at : size])
		switch {
		case at == 64 && free == 64:
			full++
		case bytes.Equal(b[16*at:][:16], filled(255, 16)) && free == at:
			blank++
		case e != api.OK && free == 64:
			broken++
		default:
			t.Fatalf("%d: it ends at page %d: %v, free %d", i, at, e, free)
		}
	}
	if min(broken, full) < 10 {
		t.Errorf("ends: blank %d, broken %d, full %d", blank, broken, full)
	}
}

func TestP502Append(t *testing.T) {
	for s := range api.Sectors {
		f := flash.New()
		var want [][]byte
		free, image := 0, filled(255, size)
		for _, n := range []int{3, 0, 10, 11, 100, 26, 27, 1, 200} {
			b := mixed(n + 5)[5:]
			ops := f.Ops()
			must(t, "Append", record.Append(f, s, b), api.OK)
			if f.Ops()-ops != need(n) {
				t.Errorf("of %d bytes: %d operations", n, f.Ops()-ops)
			}
			copy(image[16*free:], crc.Seal(b))
			free += need(n)
			want = append(want, b)
			loads(t, "Append", f, s, free, want...)
			if !bytes.Equal(f.Read(s), image) {
				t.Errorf("of %d bytes: other bytes than Seal's, and 255 behind", n)
			}
		}
		for other := range api.Sectors {
			if other != s {
				loads(t, "another sector", f, other, 0)
			}
		}
	}
}

func TestP502EachLength(t *testing.T) {
	for n := range 1019 {
		b := mixed(n)
		f := with(t, 5, b)
		loads(t, "of each length", f, 5, need(n), b)
		want := append(crc.Seal(b), filled(255, size)...)[:size]
		if !bytes.Equal(f.Read(5), want) || f.Ops() != need(n) {
			t.Errorf("of %d bytes: %d operations", n, f.Ops())
		}
	}
}

func TestP502TooLong(t *testing.T) {
	f := with(t, 0, []byte("one"))
	for _, n := range []int{1019, 1020, 1024, 2048, 65535, 65536, 65539, 1 << 20} {
		refused(t, "into a blank sector", f, 1, make([]byte, n), api.ErrLong)
		refused(t, "into one that has something", f, 0, make([]byte, n), api.ErrLong)
	}
}

func TestP502NoSector(t *testing.T) {
	f := with(t, 0, []byte("one"))
	for _, s := range noSectors {
		refused(t, "nothing", f, s, nil, api.ErrAddr)
		refused(t, "the longest one", f, s, make([]byte, 1018), api.ErrAddr)
	}
}

func TestP502Full(t *testing.T) {
	for first := 1; first <= 64; first++ {
		f := with(t, 3, make([]byte, 16*first-6))
		rest := (64-first)*16 - 6
		for _, n := range []int{max(rest, -1) + 1, 1018} {
			refused(t, "a byte too many", f, 3, make([]byte, n), api.ErrMany)
		}
		if first == 64 {
			refused(t, "nothing, where all pages are taken", f, 3, nil, api.ErrMany)
			continue
		}
		b := mixed(rest)
		must(t, "just as many as there are", record.Append(f, 3, b), api.OK)
		loads(t, "just as many as there are", f, 3, 64, make([]byte, 16*first-6), b)
		refused(t, "nothing, where all pages are taken", f, 3, nil, api.ErrMany)
	}
}

func TestP502PageByPage(t *testing.T) {
	f := flash.New()
	for p := range 64 {
		must(t, "a page each", record.Append(f, 2, []byte{byte(p)}), api.OK)
	}
	refused(t, "the 65th", f, 2, nil, api.ErrMany)
	l, free := record.Load(f, 2)
	if len(l) != 64 || free != 64 || string(l[63]) != "?" {
		t.Errorf("%d records, free %d", len(l), free)
	}
}

func TestP502BehindWhatIsNoRecord(t *testing.T) {
	f := with(t, 4, []byte("one"))
	put(t, f, 4, 1, []byte{1})
	refused(t, "free is 64", f, 4, nil, api.ErrMany)
	refused(t, "free is 64", f, 4, []byte("two"), api.ErrMany)
	must(t, "Erase", f.Erase(4), api.OK)
	must(t, "behind Erase", record.Append(f, 4, []byte("two")), api.OK)
	loads(t, "behind Erase", f, 4, 1, []byte("two"))
}

func TestP502OrderOfErrors(t *testing.T) {
	f := with(t, 0, make([]byte, 1018))
	refused(t, "too long, no sector", f, 6, make([]byte, 1019), api.ErrLong)
	refused(t, "too long, full", f, 0, make([]byte, 1019), api.ErrLong)
	refused(t, "no sector", f, -1, make([]byte, 1018), api.ErrAddr)
	f.Stop(1, nil)
	must(t, "Stop", f.Erase(1), api.ErrDead)
	refused(t, "too long, without power", f, 0, make([]byte, 1019), api.ErrLong)
	for _, s := range noSectors {
		refused(t, "no sector, without power", f, s, nil, api.ErrAddr)
	}
	refused(t, "full, without power", f, 0, nil, api.ErrMany)
	refused(t, "without power", f, 1, nil, api.ErrDead)
	refused(t, "without power", f, 1, make([]byte, 1018), api.ErrDead)
	f.Start()
	must(t, "with power", record.Append(f, 1, make([]byte, 1018)), api.OK)
}

// TestP502Set: a page behind a blank one that has a bit 0 where the record has 1: those ahead of it are written, those behind are not.
func TestP502Set(t *testing.T) {
	one, b := []byte("one"), mixed(90)
	sealed := append(crc.Seal(b), filled(255, 96)...)
	for at := 1; at < need(90); at++ {
		f := with(t, 1, one)
		page := bytes.Clone(sealed[16*at:][:16])
		i := slices.IndexFunc(page, func(b byte) bool { return b != 0 })
		page[i] &= page[i] - 1
		put(t, f, 1, 1+at, page)
		ops := f.Ops()
		must(t, "a bit that cannot be set", record.Append(f, 1, b), api.ErrSet)
		want := slices.Concat(filled(255, 16), sealed[:16*at], page, filled(255, size))[:size]
		copy(want, crc.Seal(one))
		if !bytes.Equal(f.Read(1), want) || f.Ops() != ops+at {
			t.Errorf("ErrSet at page %d: %d operations", at, f.Ops()-ops)
		}
		loads(t, "what stands stays", f, 1, 64, one)
	}
}

func TestP502SetByThe255Behind(t *testing.T) {
	for at := 1; at < 16; at++ {
		page := filled(255, 16)
		page[at] = 0x7f
		f := flash.New()
		put(t, f, 1, 1, page)
		must(t, "255 behind", record.Append(f, 1, mixed(10+at)), api.ErrSet)
		f = flash.New()
		put(t, f, 1, 1, page)
		b := append(mixed(10+at), 0x7e)
		must(t, "a bit that the record clears anyway", record.Append(f, 1, b), api.OK)
		loads(t, "a bit that the record clears anyway", f, 1, 2, b)
	}
}

func TestP502LeavesWhatItIsHanded(t *testing.T) {
	for _, n := range []int{0, 3, 10, 11, 64} {
		room := filled('r', 80)
		f := flash.New()
		must(t, "Append", record.Append(f, 0, room[:n]), api.OK)
		if !bytes.Equal(room, filled('r', 80)) {
			t.Errorf("P2: Append changed what it was handed: %q", room)
		}
		spoil(room)
		loads(t, "P2: what was handed in is kept", f, 0, need(n), filled('r', n))
	}
}

func TestP502NilIsEmpty(t *testing.T) {
	f, g := with(t, 0, nil), with(t, 0, []byte{})
	if !bytes.Equal(all(f), all(g)) {
		t.Error("P2: nil and empty are not the same")
	}
	loads(t, "nothing is a record, too", f, 0, 1, nil)
}

// masks: which bits of the write at which the power goes are done. (None of them gives a record of TestP503Torn its check sum by chance, as W4 has it. Four bytes of which the length alone is written would have it: the sum of four times 255 is all ones.)
func masks() [][]byte {
	l := [][]byte{nil, {0}, {255}, {0x0f}, {0xf0}, {0xf0, 0}, {0, 0xf0}, {1}, {0x80}, {255, 255, 0, 0, 0, 0}, {0, 0, 255, 255, 255, 255}, {0, 0, 0, 0, 0, 0, 255, 255, 255}, mixed(13), mixed(16), mixed(31)}
	for n := range 16 {
		l = append(l, append(filled(255, n), make([]byte, 16-n)...), append(make([]byte, n), filled(255, 16-n)...))
	}
	return l
}

// torn asks, behind a power cut at the stop-th operation of Append of last, for what P503 says; and tells whether last is there.
func torn(t *testing.T, f *flash.Flash, stop int, stand [][]byte, free int, last []byte) bool {
	t.Helper()
	e := record.Append(f, 4, last)
	if dead := stop <= need(len(last)); dead != (e == api.ErrDead) || !dead && e != api.OK || dead != f.Dead() {
		t.Fatalf("stop %d of %d: %v", stop, need(len(last)), e)
	}
	was := all(f)
	f.Start()
	l, end := record.Load(f, 4)
	if len(l) < len(stand) || !slices.EqualFunc(l[:len(stand)], stand, bytes.Equal) {
		t.Fatalf("stop %d: records that stand are gone: %x", stop, l)
	}
	switch len(l) - len(stand) {
	case 0:
		if e == api.OK || end != 64 && end != free {
			t.Fatalf("stop %d: %v, and it is not there; free %d", stop, e, end)
		}
		return false
	case 1:
		if !bytes.Equal(l[len(stand)], last) || end != free+need(len(last)) {
			t.Fatalf("stop %d: it is not whole: %x", stop, l[len(stand)])
		}
	default:
		t.Fatalf("stop %d: %d records", stop, len(l))
	}
	if !bytes.Equal(was, all(f)) {
		t.Fatal("Load changes something")
	}
	return true
}

func TestP503Torn(t *testing.T) {
	stand := [][]byte{[]byte("first"), nil, mixed(100), filled(255, 40)}
	free := 1 + 1 + need(100) + need(40)
	there, lacks := 0, 0
	for _, last := range [][]byte{nil, []byte("lastly"), mixed(10), mixed(11), filled(0x5a, 50), append([]byte{7}, filled(255, 60)...), make([]byte, 33), mixed((64-free)*16 - 6)} {
		for stop := 1; stop <= need(len(last))+1; stop++ {
			for _, mask := range masks() {
				f := with(t, 4, stand...)
				f.Stop(stop, mask)
				if torn(t, f, stop, stand, free, last) {
					there++
				} else {
					lacks++
				}
			}
		}
	}
	if there < 100 || lacks < 1000 {
		t.Errorf("%d times it is there, %d times not", there, lacks)
	}
}

// TestP503AsFarAsItWent: the pages ahead of the power cut are written, in order, those behind are not.
func TestP503AsFarAsItWent(t *testing.T) {
	b := mixed(100)
	sealed := append(crc.Seal(b), filled(255, size)...)
	for stop := 1; stop <= need(100); stop++ {
		for _, n := range []int{0, 1, 7, 16} {
			f := with(t, 0, []byte("one"))
			f.Stop(stop, append(filled(255, n), make([]byte, 16-n)...))
			must(t, "Append", record.Append(f, 0, b), api.ErrDead)
			done := 16*(stop-1) + n
			want := slices.Concat(filled(255, 16), sealed[:done], filled(255, size))[:size]
			copy(want, crc.Seal([]byte("one")))
			if !bytes.Equal(f.Read(0), want) || f.Ops() != 1+stop {
				t.Errorf("stop %d, %d bytes: %d operations", stop, n, f.Ops())
			}
		}
	}
}

func TestP503NothingWasDone(t *testing.T) {
	f := with(t, 4, []byte("one"))
	f.Stop(1, nil)
	must(t, "the power goes", record.Append(f, 4, mixed(40)), api.ErrDead)
	loads(t, "nothing was done", f, 4, 1, []byte("one"))
	f.Start()
	must(t, "once more", record.Append(f, 4, mixed(40)), api.OK)
	loads(t, "once more", f, 4, 4, []byte("one"), mixed(40))
}

func TestP503AllWasDone(t *testing.T) {
	f := with(t, 4, []byte("one"))
	f.Stop(3, []byte{255})
	must(t, "the power goes", record.Append(f, 4, mixed(40)), api.ErrDead)
	f.Start()
	loads(t, "all was done", f, 4, 4, []byte("one"), mixed(40))
	f.Stop(2, nil)
	must(t, "the power goes", record.Append(f, 4, filled(255, 20)), api.ErrDead)
	loads(t, "what was to be done would have changed nothing", f, 4, 6, []byte("one"), mixed(40), filled(255, 20))
}

// TestP503WhateverIsAppended: of all that Append is handed, refused or not, with power cuts between, what stands once stays.
func TestP503WhateverIsAppended(t *testing.T) {
	for i := range 400 {
		f := flash.New()
		var stand [][]byte
		for k := range 40 {
			f.Stop((i+k*7)%9, mixed(i%20*k))
			n := (i*13 + k*29) % 90
			if k%10 == 9 {
				n = 1015 + i%6
			}
			b := mixed(n + k)[k:]
			e := record.Append(f, 2, b)
			f.Start()
			l, _ := record.Load(f, 2)
			if len(l) < len(stand) || !slices.EqualFunc(l[:len(stand)], stand, bytes.Equal) {
				t.Fatalf("%d, %d: records that stand are gone", i, k)
			}
			if more := l[len(stand):]; len(more) > 1 || len(more) == 1 && !bytes.Equal(more[0], b) || len(more) == 0 && e == api.OK {
				t.Fatalf("%d, %d: %v, and %d more", i, k, e, len(more))
			}
			stand = l
		}
	}
}

func TestP503SideBySide(t *testing.T) {
	f, g := with(t, 0, []byte("f")), with(t, 0, []byte("g"), []byte("h"))
	f.Stop(1, nil)
	must(t, "P7", record.Append(g, 0, []byte("i")), api.OK)
	must(t, "P7", record.Append(f, 0, []byte("i")), api.ErrDead)
	loads(t, "P7", f, 0, 1, []byte("f"))
	loads(t, "P7", g, 0, 3, []byte("g"), []byte("h"), []byte("i"))
}

func TestP503SameCallsSameAnswers(t *testing.T) {
	run := func() []byte {
		f := flash.New()
		var b []byte
		for i := range 500 {
			f.Stop(i%11, mixed(i%40))
			e := record.Append(f, i%7, mixed(i%1100))
			l, free := record.Load(f, i%8)
			b = append(b, byte(e), byte(len(l)), byte(free))
			f.Start()
			if i%50 == 49 {
				f.Erase(i / 50 % 6)
			}
		}
		return append(b, all(f)...)
	}
	if !bytes.Equal(run(), run()) {
		t.Error("P3")
	}
}

// TestP502AsTheReadmeTells: the calls that README.md shows.
func TestP502AsTheReadmeTells(t *testing.T) {
	f := flash.New()
	must(t, "Append", record.Append(f, 0, []byte("one")), api.OK)
	must(t, "Append", record.Append(f, 0, make([]byte, 20)), api.OK)
	loads(t, "two", f, 0, 3, []byte("one"), make([]byte, 20))
	must(t, "Append", record.Append(f, 0, make([]byte, 1000)), api.ErrMany)
	f.Stop(2, []byte{0x0f})
	must(t, "Append", record.Append(f, 0, make([]byte, 20)), api.ErrDead)
	f.Start()
	loads(t, "a torn one", f, 0, 64, []byte("one"), make([]byte, 20))
}
