package slots_test

import (
	"bytes"
	"crypto/sha256"
	"encoding/binary"
	"math"
	"slices"
	"testing"

	"solenoid/api"
	"solenoid/crc"
	"solenoid/flash"
	"solenoid/record"
	"solenoid/slots"
)

const (
	size     = api.Pages * api.Page
	greatest = 1 << 30 // of an entry's numbers
	each     = 4       // pages of an entry
	most     = 16      // entries of a sector
)

func filled(b byte, n int) []byte { return bytes.Repeat([]byte{b}, n) }

// mixed is n bytes in which no short pattern comes back.
func mixed(n int) []byte {
	b := make([]byte, n)
	for i := range b {
		b[i] = byte(i*i*7 + i/3 + i>>8)
	}
	return b
}

// sum is worked out apart from the program.
func sum(b []byte) api.Hash { return sha256.Sum256(b) }

// spelled is an entry's bytes, written apart from the program.
func spelled(e slots.Entry) []byte {
	b := binary.LittleEndian.AppendUint64(nil, uint64(e.Seq))
	b = binary.LittleEndian.AppendUint64(b, uint64(e.Slot))
	return append(b, e.Sum[:]...)
}

// all is what every sector has.
func all(f *flash.Flash) []byte {
	var b []byte
	for s := range api.Sectors {
		b = append(b, f.Read(s)...)
	}
	return b
}

// load is a new memory with these bytes.
func load(b []byte) *flash.Flash {
	f := flash.New()
	for p := range api.Sectors * api.Pages {
		f.Program(p/api.Pages, p%api.Pages, b[16*p:][:16])
	}
	return f
}

// spoil overwrites bytes and their spare room.
func spoil(b []byte) {
	b = b[:cap(b)]
	for i := range b {
		b[i] ^= 0x55
	}
}

// must asks for an answer.
func must(t *testing.T, what string, got, want api.Errno) {
	t.Helper()
	if got != want {
		t.Errorf("%s: %v, and not %v", what, got, want)
	}
}

// put appends entries to a sector, whatever they say.
func put(t *testing.T, f *flash.Flash, sector int, l ...slots.Entry) {
	t.Helper()
	for _, e := range l {
		must(t, "Append", record.Append(f, sector, spelled(e)), api.OK)
	}
}

// image puts records into a slot's sector, whatever they are.
func image(t *testing.T, f *flash.Flash, slot int, l ...[]byte) {
	t.Helper()
	for _, b := range l {
		must(t, "Append", record.Append(f, 2+slot, b), api.OK)
	}
}

// boots asks for what is booted.
func boots(t *testing.T, what string, f *flash.Flash, want slots.Entry, image []byte) {
	t.Helper()
	if e, b := slots.Boot(f); e != want || !bytes.Equal(b, image) {
		t.Errorf("%s: %d, slot %d, %x.., %q, and not %d, slot %d, %x.., %q", what, e.Seq, e.Slot, e.Sum[:3], b, want.Seq, want.Slot, want.Sum[:3], image)
	}
}

// none is what is booted where no entry counts.
var none = slots.Entry{Slot: 2}

// of is an entry of an image.
func of(seq, slot int, image []byte) slots.Entry {
	return slots.Entry{Seq: seq, Slot: slot, Sum: sum(image)}
}

// written asks for a sector's entries, in order.
func written(t *testing.T, what string, f *flash.Flash, sector int, want ...slots.Entry) {
	t.Helper()
	l, _ := record.Load(f, sector)
	if !slices.EqualFunc(l, want, func(b []byte, e slots.Entry) bool { return bytes.Equal(b, spelled(e)) }) {
		t.Errorf("%s: sector %d has %d records, and not %d: %x", what, sector, len(l), len(want), l)
	}
}

// refused asks a call for an error, and that nothing is changed.
func refused(t *testing.T, what string, f *flash.Flash, call func() api.Errno, want api.Errno) {
	t.Helper()
	was, ops, dead := all(f), f.Ops(), f.Dead()
	must(t, what, call(), want)
	if !bytes.Equal(all(f), was) || f.Ops() != ops || f.Dead() != dead {
		t.Errorf("P5: %s: something is changed", what)
	}
}

var (
	one, two = []byte("one"), []byte("the second image")
	noSlots  = []int{-1, -2, 4, 5, 6, 1 << 32, 1<<32 + 1, math.MaxInt, math.MinInt}
)

// anyEntries: sound ones, and some that no memory should have.
func anyEntries() []slots.Entry {
	var l []slots.Entry
	for _, seq := range []int{0, 1, 2, 255, 256, greatest - 1, greatest, greatest + 1, 1 << 32, 1<<32 + 1, -1, -greatest, math.MaxInt, math.MinInt} {
		for _, slot := range []int{0, 1, 2, 3, 255, 256, 1 << 32, -1, math.MaxInt, math.MinInt} {
			l = append(l, slots.Entry{Seq: seq, Slot: slot}, slots.Entry{Seq: seq, Slot: slot, Sum: api.Hash(mixed(32))}, slots.Entry{Seq: seq, Slot: slot, Sum: api.Hash(filled(255, 32))})
		}
	}
	return l
}

func sound(e slots.Entry) bool {
	return 1 <= e.Seq && e.Seq <= 1073741824 && (e.Slot == 0 || e.Slot == 1 || e.Slot == 2)
}

func TestP601Bytes(t *testing.T) {
	want := slices.Concat([]byte{2, 1, 0, 0, 0, 0, 0, 0, 1, 0, 0, 0, 0, 0, 0, 0}, mixed(32))
	if got := slots.Bytes(slots.Entry{Seq: 258, Slot: 1, Sum: api.Hash(mixed(32))}); !bytes.Equal(got, want) {
		t.Errorf("Bytes: %x", got)
	}
	for _, e := range anyEntries() {
		if got := slots.Bytes(e); !bytes.Equal(got, spelled(e)) {
			t.Errorf("Bytes(%d, %d): %x", e.Seq, e.Slot, got)
		}
	}
}

func TestP601BytesAreNew(t *testing.T) {
	e := of(5, 1, one)
	x, y := slots.Bytes(e), slots.Bytes(e)
	spoil(x)
	if !bytes.Equal(y, spelled(e)) {
		t.Errorf("P2: two answers share: %x", y)
	}
}

func TestP601Parse(t *testing.T) {
	good := 0
	for _, e := range anyEntries() {
		want, fault := e, api.OK
		if !sound(e) {
			want, fault = slots.Entry{}, api.ErrBad
		} else {
			good++
		}
		if got, err := slots.Parse(spelled(e)); got != want || err != fault {
			t.Errorf("Parse of %d, %d: %d, %d, %x, %v", e.Seq, e.Slot, got.Seq, got.Slot, got.Sum, err)
		}
	}
	if good != 6*3*3 {
		t.Errorf("%d good ones", good)
	}
}

func TestP601ParseOfEachByte(t *testing.T) {
	for at := range 32 {
		for x := range 256 {
			e := slots.Entry{Seq: 1}
			e.Sum[at] = byte(x)
			if got, err := slots.Parse(spelled(e)); got != e || err != api.OK {
				t.Errorf("byte %d of Sum: %x, %v", at, got.Sum, err)
			}
		}
	}
}

// TestP601ParseErrors: what lacks, and what is left, are ahead of what may not be.
func TestP601ParseErrors(t *testing.T) {
	for _, e := range anyEntries() {
		b := spelled(e)
		for n := range b {
			if got, err := slots.Parse(b[:n]); got != (slots.Entry{}) || err != api.ErrCut {
				t.Fatalf("%d bytes of %d, %d: %v", n, e.Seq, e.Slot, err)
			}
		}
		for _, more := range [][]byte{{0}, {255}, b, make([]byte, 70000)} {
			if got, err := slots.Parse(slices.Concat(b, more)); got != (slots.Entry{}) || err != api.ErrMore {
				t.Fatalf("%d bytes behind %d, %d: %v", len(more), e.Seq, e.Slot, err)
			}
		}
	}
	for _, b := range [][]byte{nil, {}} {
		if got, err := slots.Parse(b); got != (slots.Entry{}) || err != api.ErrCut {
			t.Errorf("of nothing: %v", err)
		}
	}
}

func TestP601ParseLeavesWhatItIsHanded(t *testing.T) {
	e := of(7, 2, one)
	room := append(spelled(e), "more"...)
	was := bytes.Clone(room)
	for range 2 {
		if got, err := slots.Parse(room[:48]); got != e || err != api.OK || !bytes.Equal(room, was) {
			t.Errorf("P2, P3: %v, %x", err, room)
		}
	}
}

func TestP601NewMemory(t *testing.T) {
	f := flash.New()
	boots(t, "the chapter's example", f, none, nil)
	image(t, f, 0, one)
	image(t, f, 1, nil)
	boots(t, "images, no entries", f, none, nil)
}

func TestP601SlotsSectors(t *testing.T) {
	for slot, b := range [][]byte{one, two} {
		f := flash.New()
		image(t, f, 0, one)
		image(t, f, 1, two)
		e := of(4, slot, b)
		put(t, f, 0, e)
		boots(t, "each slot its sector", f, e, b)
		g := flash.New()
		image(t, g, 0, two)
		image(t, g, 1, one)
		put(t, g, 0, e)
		boots(t, "the other slot's image", g, none, nil)
	}
}

func TestP601Factory(t *testing.T) {
	for _, h := range []api.Hash{{}, {9}, sum(nil), sum(one), api.Hash(filled(255, 32))} {
		f := flash.New()
		e := slots.Entry{Seq: 3, Slot: 2, Sum: h}
		put(t, f, 1, e)
		boots(t, "any sum", f, e, nil)
		image(t, f, 0, one)
		image(t, f, 1, one)
		must(t, "Append", record.Append(f, 4, one), api.OK)
		boots(t, "no image, whatever is there", f, e, nil)
	}
}

func TestP601CountsByItsSum(t *testing.T) {
	for slot := range 2 {
		for bit := range 256 {
			e := of(1, slot, one)
			e.Sum[bit/8] ^= 1 << (bit % 8)
			f := flash.New()
			image(t, f, slot, one)
			put(t, f, 0, e)
			boots(t, "a bit of the sum", f, none, nil)
		}
	}
}

func TestP601NoImage(t *testing.T) {
	for slot := range 2 {
		for _, h := range []api.Hash{{}, sum(nil), api.Hash(filled(255, 32))} {
			f := flash.New()
			put(t, f, 0, slots.Entry{Seq: 1, Slot: slot, Sum: h})
			boots(t, "no record", f, none, nil)
			must(t, "Program", f.Program(2+slot, 0, []byte{1}), api.OK)
			must(t, "Program", f.Program(2+slot, 1, crc.Seal(nil)), api.OK)
			boots(t, "no record at the front", f, none, nil)
		}
	}
}

func TestP601FirstRecord(t *testing.T) {
	for slot := range 2 {
		f := flash.New()
		image(t, f, slot, one, two)
		put(t, f, 0, of(1, slot, one))
		boots(t, "the first one", f, of(1, slot, one), one)
		must(t, "Program", f.Program(2+slot, 5, []byte{1}), api.OK)
		boots(t, "whatever stands behind", f, of(1, slot, one), one)
		put(t, f, 0, of(2, slot, two))
		boots(t, "the second one", f, of(1, slot, one), one)
	}
}

func TestP601ImagesOfAnyLength(t *testing.T) {
	for slot := range 2 {
		for _, n := range []int{0, 1, 10, 11, 55, 56, 64, 999, 1000, 1001, 1018} {
			for _, b := range [][]byte{mixed(n), make([]byte, n), filled(255, n)} {
				f := flash.New()
				image(t, f, slot, b)
				put(t, f, 1, of(9, slot, b))
				boots(t, "of any length", f, of(9, slot, b), b)
			}
		}
	}
}

func TestP601OtherSectorsHaveNoEntries(t *testing.T) {
	f := flash.New()
	for sector := 2; sector < 6; sector++ {
		put(t, f, sector, slots.Entry{Seq: 5, Slot: 2})
	}
	boots(t, "entries where none are", f, none, nil)
	put(t, f, 1, slots.Entry{Seq: 4, Slot: 2})
	boots(t, "one where they are", f, slots.Entry{Seq: 4, Slot: 2}, nil)
}

// TestP601OtherRecords: what Parse refuses is passed over, and what stands behind it counts.
func TestP601OtherRecords(t *testing.T) {
	good := slots.Entry{Seq: 3, Slot: 2, Sum: sum(one)}
	strange := [][]byte{nil, []byte("none"), spelled(good)[:47], append(spelled(of(8, 2, nil)), 0), spelled(slots.Entry{Seq: greatest + 1, Slot: 2}), spelled(slots.Entry{Seq: 9, Slot: 3}), spelled(slots.Entry{Seq: 9, Slot: -1}), spelled(slots.Entry{Slot: 2}), spelled(slots.Entry{Seq: -9, Slot: 2})}
	for _, b := range strange {
		for sector := range 2 {
			f := flash.New()
			must(t, "Append", record.Append(f, sector, b), api.OK)
			boots(t, "none", f, none, nil)
			put(t, f, sector, good)
			must(t, "Append", record.Append(f, sector, b), api.OK)
			boots(t, "one, among others", f, good, nil)
		}
	}
	f := flash.New()
	put(t, f, 0, good)
	must(t, "Program", f.Program(0, each, []byte{1}), api.OK)
	for i, b := 0, crc.Seal(spelled(slots.Entry{Seq: 7, Slot: 2})); i < each; i++ {
		must(t, "Program", f.Program(0, each+1+i, b[16*i:min(len(b), 16*i+16)]), api.OK)
	}
	boots(t, "behind what is no record", f, good, nil)
}

// factory is an entry that counts whatever is in the memory; h tells it from others of its number.
func factory(seq int, h byte) slots.Entry { return slots.Entry{Seq: seq, Slot: 2, Sum: api.Hash{h}} }

func TestP601Greatest(t *testing.T) {
	for _, c := range []struct {
		what   string
		l0, l1 []slots.Entry
		want   slots.Entry
	}{
		{"in sector 0", []slots.Entry{factory(1, 1), factory(9, 2), factory(4, 3)}, []slots.Entry{factory(8, 4)}, factory(9, 2)},
		{"in sector 1", []slots.Entry{factory(8, 1)}, []slots.Entry{factory(9, 2), factory(2, 3)}, factory(9, 2)},
		{"the first one", []slots.Entry{factory(9, 1), factory(8, 2), factory(7, 3)}, nil, factory(9, 1)},
		{"sector 1 alone", nil, []slots.Entry{factory(1, 1), factory(2, 2)}, factory(2, 2)},
		{"the bounds", []slots.Entry{factory(1, 1)}, []slots.Entry{factory(greatest, 2), factory(greatest-1, 3)}, factory(greatest, 2)},
		{"not by the lowest byte", []slots.Entry{factory(255, 1)}, []slots.Entry{factory(256, 2)}, factory(256, 2)},
		{"of two the one in sector 0", []slots.Entry{factory(5, 1)}, []slots.Entry{factory(5, 2)}, factory(5, 1)},
		{"of two the one in sector 0, though the other stands later", []slots.Entry{factory(5, 1), factory(3, 9)}, []slots.Entry{factory(1, 9), factory(2, 9), factory(5, 2)}, factory(5, 1)},
		{"of one sector the later one", []slots.Entry{factory(5, 1), factory(5, 2), factory(4, 9)}, nil, factory(5, 2)},
		{"of sector 1 the later one", []slots.Entry{factory(4, 9)}, []slots.Entry{factory(5, 1), factory(5, 2)}, factory(5, 2)},
		{"of two in each sector", []slots.Entry{factory(5, 1), factory(5, 2)}, []slots.Entry{factory(5, 3), factory(5, 4)}, factory(5, 2)},
		{"of three", []slots.Entry{factory(5, 1), factory(6, 9), factory(6, 2), factory(6, 3)}, nil, factory(6, 3)},
	} {
		f := flash.New()
		put(t, f, 0, c.l0...)
		put(t, f, 1, c.l1...)
		boots(t, c.what, f, c.want, nil)
	}
}

// TestP601GreatestThatCounts: those that do not count stand back, also where they go ahead by their number or their place.
func TestP601GreatestThatCounts(t *testing.T) {
	here, gone := of(0, 0, one), of(0, 1, []byte("gone"))
	at := func(e slots.Entry, seq int) slots.Entry {
		e.Seq = seq
		return e
	}
	for _, c := range []struct {
		what   string
		l0, l1 []slots.Entry
		want   int
	}{
		{"a greater one in its sector", []slots.Entry{at(here, 3), at(gone, 4), at(gone, 5)}, nil, 3},
		{"a greater one ahead of it", []slots.Entry{at(gone, 5), at(here, 3), at(here, 2)}, nil, 3},
		{"a greater one in the other sector", []slots.Entry{at(gone, 9)}, []slots.Entry{at(here, 2), at(gone, 7)}, 2},
		{"one of the same number in sector 0", []slots.Entry{at(gone, 5)}, []slots.Entry{at(here, 5)}, 5},
		{"one of the same number, and later", []slots.Entry{at(here, 5), at(gone, 5)}, nil, 5},
		{"many", []slots.Entry{at(gone, 8), at(here, 1), at(gone, 9)}, []slots.Entry{at(gone, 7), at(here, 6), at(gone, 10), at(here, 4)}, 6},
	} {
		f := flash.New()
		image(t, f, 0, one)
		image(t, f, 1, two)
		put(t, f, 0, c.l0...)
		put(t, f, 1, c.l1...)
		boots(t, c.what, f, at(here, c.want), one)
	}
}

func TestP601FullSectors(t *testing.T) {
	f := flash.New()
	for i := range most {
		put(t, f, 0, factory(2*i+1, byte(i)))
		put(t, f, 1, factory(2*i+2, byte(i)))
	}
	boots(t, "the very last one", f, factory(2*most, most-1), nil)
}

func TestP601ChangesNothing(t *testing.T) {
	f := flash.New()
	image(t, f, 1, two)
	put(t, f, 0, of(1, 1, two), of(2, 0, one))
	f.Stop(1, []byte{255})
	was, ops := all(f), f.Ops()
	for range 3 {
		boots(t, "again and again", f, of(1, 1, two), two)
	}
	if !bytes.Equal(all(f), was) || f.Ops() != ops || f.Dead() {
		t.Error("Boot changes something")
	}
	must(t, "the Stop is set as it was", f.Erase(5), api.ErrDead)
	boots(t, "without power", f, of(1, 1, two), two)
}

func TestP601AnswersAreNew(t *testing.T) {
	f := flash.New()
	image(t, f, 1, two)
	put(t, f, 0, of(1, 1, two))
	_, x := slots.Boot(f)
	_, y := slots.Boot(f)
	spoil(x)
	if !bytes.Equal(y, two) {
		t.Error("P2: two answers share")
	}
	boots(t, "P2: an answer shares with the memory", f, of(1, 1, two), two)
}

// dice is a row of numbers that comes again each time.
type dice uint64

func (d *dice) below(n int) int {
	*d = *d*6364136223846793005 + 1442695040888963407
	return int(uint64(*d)>>33) % n
}

// strange is a memory of entries and images that count and do not, and of other bytes.
func strange(d *dice) *flash.Flash {
	f := flash.New()
	images := [][]byte{one, two, nil, mixed(1018)}
	for slot := range 2 {
		for range d.below(3) {
			record.Append(f, 2+slot, images[d.below(4)])
		}
	}
	for sector := range 2 {
		for range d.below(10) {
			e := of(1+d.below(6), d.below(3), images[d.below(4)])
			switch d.below(12) {
			case 0:
				record.Append(f, sector, images[d.below(4)])
			case 1:
				e.Seq = d.below(2) * (greatest + 1)
				record.Append(f, sector, spelled(e))
			case 2:
				f.Stop(1+d.below(each), mixed(1+d.below(30)))
				record.Append(f, sector, spelled(e))
				f.Start()
			default:
				record.Append(f, sector, spelled(e))
			}
		}
	}
	return f
}

// stand is a memory's entries, from that which goes ahead of all others on.
func stand(f *flash.Flash) (l []slots.Entry, newer int) {
	for sector := range 2 {
		records, _ := record.Load(f, sector)
		for i := len(records) - 1; i >= 0; i-- {
			b := records[i]
			if len(b) != 48 {
				continue
			}
			e := slots.Entry{Seq: int(binary.LittleEndian.Uint64(b)), Slot: int(binary.LittleEndian.Uint64(b[8:])), Sum: api.Hash(b[16:])}
			if !sound(e) {
				continue
			}
			if len(l) == 0 || sector == 1 && e.Seq > slices.MaxFunc(l, func(a, b slots.Entry) int { return a.Seq - b.Seq }).Seq {
				newer = sector
			}
			l = append(l, e)
		}
	}
	slices.SortStableFunc(l, func(a, b slots.Entry) int { return b.Seq - a.Seq })
	return l, newer
}

// expected is what Boot should tell, worked out apart from the program.
func expected(f *flash.Flash) (slots.Entry, []byte) {
	l, _ := stand(f)
	for _, e := range l {
		if e.Slot == 2 {
			return e, nil
		}
		if images, _ := record.Load(f, 2+e.Slot); len(images) > 0 && sum(images[0]) == e.Sum {
			return e, images[0]
		}
	}
	return none, nil
}

func TestP601OfAnyMemory(t *testing.T) {
	d := dice(601)
	counts, passed := 0, 0
	for range 3000 {
		f := strange(&d)
		e, b := expected(f)
		boots(t, "any memory", f, e, b)
		if l, _ := stand(f); e != none {
			counts++
			if l[0] != e {
				passed++
			}
		}
	}
	if counts < 1000 || passed < 300 || counts == 3000 {
		t.Errorf("%d times one counts, %d times it is not the newest", counts, passed)
	}
}

// TestP601OfAnyBytes: a memory that nothing of this program wrote.
func TestP601OfAnyBytes(t *testing.T) {
	for i := range 200 {
		b := filled(255, 6*size)
		for k := range b {
			if i%3 != 0 || k%(i+2) == 0 {
				b[k] = byte(k*k*i + k/7 + i)
			}
		}
		f := load(b)
		e, image := expected(f)
		boots(t, "any bytes", f, e, image)
	}
	boots(t, "noughts", load(make([]byte, 6*size)), none, nil)
}

func TestP602Store(t *testing.T) {
	for slot := range 2 {
		for _, n := range []int{0, 1, 10, 11, 500, 999, 1000} {
			f := load(mixed(6 * size))
			was, ops := all(f), f.Ops()
			b := mixed(n + 3)[3:]
			must(t, "Store", slots.Store(f, slot, b), api.OK)
			want := append(crc.Seal(b), filled(255, size)...)[:size]
			copy(was[size*(2+slot):], want)
			if !bytes.Equal(all(f), was) {
				t.Errorf("of %d bytes: other bytes than its record in its sector, erased behind", n)
			}
			if f.Ops()-ops != 1+record.Pages(n) {
				t.Errorf("of %d bytes: %d operations", n, f.Ops()-ops)
			}
		}
	}
}

func TestP602StoreAgain(t *testing.T) {
	f := flash.New()
	put(t, f, 0, of(1, 1, one), of(2, 1, two))
	must(t, "Store", slots.Store(f, 1, mixed(1000)), api.OK)
	boots(t, "another image", f, none, nil)
	must(t, "Store", slots.Store(f, 1, one), api.OK)
	boots(t, "the elder one's", f, of(1, 1, one), one)
	must(t, "Store", slots.Store(f, 0, two), api.OK)
	boots(t, "into the other slot", f, of(1, 1, one), one)
	must(t, "Store", slots.Store(f, 1, two), api.OK)
	boots(t, "the newer one's", f, of(2, 1, two), two)
}

func TestP602StoreRefuses(t *testing.T) {
	f := flash.New()
	image(t, f, 0, one)
	for _, slot := range append(noSlots, 2, 3) {
		for _, n := range []int{0, 1000, 1001, 70000} {
			refused(t, "no slot", f, func() api.Errno { return slots.Store(f, slot, make([]byte, n)) }, api.ErrArg)
		}
	}
	for slot := range 2 {
		for _, n := range []int{1001, 1002, 1018, 1019, 65535, 65536, 1 << 20} {
			refused(t, "too long", f, func() api.Errno { return slots.Store(f, slot, make([]byte, n)) }, api.ErrLong)
		}
	}
	f.Stop(1, nil)
	must(t, "Stop", f.Erase(5), api.ErrDead)
	refused(t, "no slot, without power", f, func() api.Errno { return slots.Store(f, 2, one) }, api.ErrArg)
	refused(t, "too long, without power", f, func() api.Errno { return slots.Store(f, 0, make([]byte, 1001)) }, api.ErrLong)
	refused(t, "without power", f, func() api.Errno { return slots.Store(f, 0, make([]byte, 1000)) }, api.ErrDead)
	f.Start()
	must(t, "with power", slots.Store(f, 0, make([]byte, 1000)), api.OK)
}

// TestP602StoreIsTorn: no part of an image is booted, and what counts in the other slot is.
func TestP602StoreIsTorn(t *testing.T) {
	b := mixed(100)
	for stop := 1; stop <= 1+record.Pages(100)+1; stop++ {
		for _, mask := range masks() {
			f := flash.New()
			image(t, f, 0, one)
			image(t, f, 1, two)
			put(t, f, 0, of(1, 0, one), of(2, 1, b))
			f.Stop(stop, mask)
			e := slots.Store(f, 1, b)
			dead := stop <= 1+record.Pages(100)
			if dead != (e == api.ErrDead) || !dead && e != api.OK || dead != f.Dead() {
				t.Fatalf("stop %d: %v", stop, e)
			}
			f.Start()
			if e, got := slots.Boot(f); e == of(2, 1, b) && bytes.Equal(got, b) {
				continue
			}
			if !dead {
				t.Fatal("it is not there")
			}
			boots(t, "torn", f, of(1, 0, one), one)
			must(t, "again", slots.Store(f, 1, b), api.OK)
			boots(t, "again", f, of(2, 1, b), b)
		}
	}
}

func TestP602StoreLeavesWhatItIsHanded(t *testing.T) {
	for _, n := range []int{0, 3, 10, 64} {
		room := filled('r', 80)
		f := flash.New()
		must(t, "Store", slots.Store(f, 0, room[:n]), api.OK)
		if !bytes.Equal(room, filled('r', 80)) {
			t.Errorf("P2: Store changed what it was handed: %q", room)
		}
		spoil(room)
		if l, _ := record.Load(f, 2); len(l) != 1 || !bytes.Equal(l[0], filled('r', n)) {
			t.Errorf("P2: what was handed in is kept: %q", l)
		}
	}
}

func TestP602StoreNilIsEmpty(t *testing.T) {
	f, g := flash.New(), flash.New()
	must(t, "Store", slots.Store(f, 1, nil), api.OK)
	must(t, "Store", slots.Store(g, 1, []byte{}), api.OK)
	if !bytes.Equal(all(f), all(g)) {
		t.Error("P2: nil and empty are not the same")
	}
	must(t, "Mark", slots.Mark(f, 1, sum(nil)), api.OK)
	boots(t, "nothing is an image, too", f, of(1, 1, nil), nil)
}

// TestP602MarkRound: 16 entries fill a sector; then the other one is erased, and filled, again and again.
func TestP602MarkRound(t *testing.T) {
	f := flash.New()
	image(t, f, 0, one)
	image(t, f, 1, two)
	var stood [2][]slots.Entry
	for k := 1; k <= 5*most; k++ {
		e := of(k, k%3, [][]byte{one, two, mixed(k)}[k%3])
		sector := (k - 1) / most % 2
		erased := 0
		if (k-1)%most == 0 {
			stood[sector] = nil
			erased = min(k-1, 1) // sector 0 was blank at the first one
		}
		stood[sector] = append(stood[sector], e)
		ops := f.Ops()
		must(t, "Mark", slots.Mark(f, e.Slot, e.Sum), api.OK)
		if f.Ops()-ops != each+erased {
			t.Errorf("%d: %d operations", k, f.Ops()-ops)
		}
		written(t, "Mark", f, 0, stood[0]...)
		written(t, "Mark", f, 1, stood[1]...)
		boots(t, "Mark", f, e, [][]byte{one, two, nil}[k%3])
	}
}

func TestP602MarkWritesThereAlone(t *testing.T) {
	b := filled(255, 6*size)
	copy(b[2*size:], mixed(4*size))
	for full := range 2*most + 2 {
		f := load(b)
		var want [2][]byte
		for k := range full + 1 {
			if k%most == 0 {
				want[k/most%2] = nil
			}
			want[k/most%2] = append(append(want[k/most%2], crc.Seal(spelled(factory(k+1, byte(k))))...), filled(255, 10)...)
			must(t, "Mark", slots.Mark(f, 2, api.Hash{byte(k)}), api.OK)
		}
		for sector := range 2 {
			if !bytes.Equal(f.Read(sector), append(want[sector], filled(255, size)...)[:size]) {
				t.Errorf("%d: sector %d has other bytes", full, sector)
			}
		}
		if !bytes.Equal(all(f)[2*size:], b[2*size:]) {
			t.Errorf("%d: another sector is changed", full)
		}
	}
}

func TestP602MarkOfAnySum(t *testing.T) {
	for slot := range 3 {
		for _, h := range []api.Hash{{}, sum(one), api.Hash(filled(255, 32)), api.Hash(mixed(32))} {
			f := flash.New()
			must(t, "Mark", slots.Mark(f, slot, h), api.OK)
			written(t, "any sum, whatever is in the slot", f, 0, slots.Entry{Seq: 1, Slot: slot, Sum: h})
			if slot < 2 {
				boots(t, "its image is not there", f, none, nil)
			}
		}
	}
}

// TestP602MarkSeq: of all entries, those that do not count among them, and of those alone.
func TestP602MarkSeq(t *testing.T) {
	gone := of(0, 1, []byte("gone"))
	for _, c := range []struct {
		what   string
		l0, l1 []slots.Entry
		newer  int
		want   int
	}{
		{"none", nil, nil, 0, 1},
		{"sector 0", []slots.Entry{factory(1, 1), factory(7, 2), factory(3, 3)}, nil, 0, 8},
		{"sector 1 alone", nil, []slots.Entry{factory(5, 1)}, 1, 6},
		{"sector 1's greater", []slots.Entry{factory(8, 1), factory(2, 2)}, []slots.Entry{factory(9, 1), factory(1, 2)}, 1, 10},
		{"sector 0's greater", []slots.Entry{factory(9, 1), factory(2, 2)}, []slots.Entry{factory(8, 1), factory(8, 2)}, 0, 10},
		{"of two", []slots.Entry{factory(5, 1)}, []slots.Entry{factory(5, 2), factory(4, 2), factory(5, 3)}, 0, 6},
		{"one that does not count", []slots.Entry{factory(2, 1)}, []slots.Entry{{Seq: 40, Slot: gone.Slot, Sum: gone.Sum}}, 1, 41},
		{"the greatest", []slots.Entry{factory(greatest-1, 1)}, nil, 0, greatest},
		{"no entries", []slots.Entry{factory(greatest+1, 1)}, []slots.Entry{{Seq: 9, Slot: 3}, factory(0, 1), factory(-1, 1)}, 0, 1},
	} {
		f := flash.New()
		put(t, f, 0, c.l0...)
		put(t, f, 1, c.l1...)
		must(t, c.what, slots.Mark(f, 2, api.Hash{77}), api.OK)
		l := [2][]slots.Entry{c.l0, c.l1}
		l[c.newer] = append(slices.Clone(l[c.newer]), factory(c.want, 77))
		written(t, c.what, f, 0, l[0]...)
		written(t, c.what, f, 1, l[1]...)
	}
}

func TestP602MarkOver(t *testing.T) {
	for sector := range 2 {
		f := flash.New()
		put(t, f, sector, of(greatest, 1, one), factory(3, 1))
		put(t, f, 1-sector, factory(greatest-1, 2))
		for slot := range 3 {
			refused(t, "above 2^30", f, func() api.Errno { return slots.Mark(f, slot, sum(one)) }, api.ErrOver)
		}
		f.Stop(1, nil)
		must(t, "Stop", f.Erase(5), api.ErrDead)
		refused(t, "above 2^30, without power", f, func() api.Errno { return slots.Mark(f, 2, api.Hash{}) }, api.ErrOver)
	}
}

func TestP602MarkRefuses(t *testing.T) {
	f := flash.New()
	put(t, f, 0, factory(1, 1))
	over := flash.New()
	put(t, over, 0, factory(greatest, 1))
	for _, slot := range append(noSlots, 3) {
		refused(t, "no slot", f, func() api.Errno { return slots.Mark(f, slot, api.Hash{}) }, api.ErrArg)
		refused(t, "no slot, above 2^30", over, func() api.Errno { return slots.Mark(over, slot, api.Hash{}) }, api.ErrArg)
	}
	f.Stop(1, nil)
	must(t, "Stop", f.Erase(5), api.ErrDead)
	refused(t, "no slot, without power", f, func() api.Errno { return slots.Mark(f, 3, api.Hash{}) }, api.ErrArg)
	refused(t, "without power", f, func() api.Errno { return slots.Mark(f, 2, api.Hash{}) }, api.ErrDead)
	f.Start()
	must(t, "with power", slots.Mark(f, 2, api.Hash{2}), api.OK)
	boots(t, "with power", f, factory(2, 2), nil)
}

func TestP602MarkWithoutPowerWhereFull(t *testing.T) {
	for full := most; full <= 2*most; full += most {
		f := marked(t, full)
		f.Stop(1, nil)
		must(t, "Stop", f.Erase(5), api.ErrDead)
		refused(t, "without power, where it is full", f, func() api.Errno { return slots.Mark(f, 2, api.Hash{}) }, api.ErrDead)
	}
}

// TestP602MarkBehindWhatIsNoRecord: a sector in which nothing can be appended is as good as full.
func TestP602MarkBehindWhatIsNoRecord(t *testing.T) {
	for newer := range 2 {
		f := flash.New()
		put(t, f, newer, factory(5, 1))
		put(t, f, 1-newer, factory(4, 1), factory(3, 1))
		must(t, "Program", f.Program(newer, each, []byte{1}), api.OK)
		must(t, "Mark", slots.Mark(f, 2, api.Hash{6}), api.OK)
		written(t, "the newer one stays", f, newer, factory(5, 1))
		written(t, "the other one was erased", f, 1-newer, factory(6, 6))
	}
	f := flash.New()
	must(t, "Program", f.Program(0, 0, []byte{1}), api.OK)
	must(t, "Program", f.Program(1, 7, []byte{1}), api.OK)
	must(t, "Mark", slots.Mark(f, 2, api.Hash{1}), api.OK)
	written(t, "none: 0, and in its place 1", f, 1, factory(1, 1))
	if got := f.Read(1)[16*7]; got != 255 {
		t.Errorf("sector 1 was not erased: %d", got)
	}
}

// TestP602MarkErasesTheOtherOne: whatever it has, also if nothing of the newer one counts.
func TestP602MarkErasesTheOtherOne(t *testing.T) {
	f := flash.New()
	image(t, f, 0, one)
	put(t, f, 0, of(1, 0, one))
	for k := range most {
		put(t, f, 1, of(2+k, 1, []byte("gone")))
	}
	boots(t, "ahead", f, of(1, 0, one), one)
	must(t, "Mark", slots.Mark(f, 0, sum(one)), api.OK)
	written(t, "Mark", f, 0, of(2+most, 0, one))
	boots(t, "behind", f, of(2+most, 0, one), one)
}

// TestP602MarkSet: an error that is not ErrMany is answered, and the other sector is not touched.
func TestP602MarkSet(t *testing.T) {
	for newer := range 2 {
		for at := 1; at < each; at++ {
			f := flash.New()
			put(t, f, newer, factory(5, 1))
			put(t, f, 1-newer, factory(4, 1))
			must(t, "Program", f.Program(newer, each+at, make([]byte, 16)), api.OK)
			was := f.Read(1 - newer)
			must(t, "a bit that cannot be set", slots.Mark(f, 1, api.Hash(filled(255, 32))), api.ErrSet)
			if !bytes.Equal(f.Read(1-newer), was) {
				t.Error("the other sector is changed")
			}
			boots(t, "what stood", f, factory(5, 1), nil)
			must(t, "again", slots.Mark(f, 2, api.Hash{6}), api.OK)
			written(t, "again", f, 1-newer, factory(6, 6))
		}
	}
}

func TestP602MarkOfAnyMemory(t *testing.T) {
	d := dice(602)
	rotated, stayed := 0, 0
	for k := range 2000 {
		f := strange(&d)
		l, newer := stand(f)
		seq := 1
		if len(l) > 0 {
			seq = l[0].Seq + 1
		}
		e := slots.Entry{Seq: seq, Slot: k % 3, Sum: api.Hash{byte(k)}}
		g := load(all(f))
		want := record.Append(g, newer, spelled(e))
		if want == api.ErrMany {
			rotated++
			g.Erase(1 - newer)
			want = record.Append(g, 1-newer, spelled(e))
		} else {
			stayed++
		}
		must(t, "any memory", slots.Mark(f, e.Slot, e.Sum), want)
		if !bytes.Equal(all(f), all(g)) {
			t.Fatalf("%d: Mark wrote other bytes", k)
		}
	}
	if min(rotated, stayed) < 100 {
		t.Errorf("%d times the other sector, %d times the newer one", rotated, stayed)
	}
}

func TestP602SideBySide(t *testing.T) {
	f, g := flash.New(), flash.New()
	must(t, "Mark", slots.Mark(f, 2, api.Hash{1}), api.OK)
	must(t, "Store", slots.Store(f, 0, one), api.OK)
	boots(t, "P7", g, none, nil)
	if !bytes.Equal(all(g), filled(255, 6*size)) {
		t.Error("P7: another memory is changed")
	}
}

// masks: which bits of the write at which the power goes are done.
func masks() [][]byte {
	l := [][]byte{nil, {0}, {255}, {0x0f}, {0xf0}, {1}, {0x80}, {255, 0}, {0, 255}, append([]byte{0}, filled(255, 15)...), append(make([]byte, 6), filled(255, 10)...), append(filled(255, 6), make([]byte, 10)...), mixed(13), mixed(16), mixed(1024), append(make([]byte, 512), filled(255, 512)...), append(filled(255, 512), make([]byte, 512)...)}
	for page := range 5 {
		b := make([]byte, size)
		copy(b[16*page:], filled(255, 16))
		l = append(l, b)
	}
	return l
}

// marked is a memory with both images, behind so many commits.
func marked(t *testing.T, n int) *flash.Flash {
	t.Helper()
	f := flash.New()
	image(t, f, 0, one)
	image(t, f, 1, two)
	for k := range n {
		b := [][]byte{one, two}[k%2]
		must(t, "Mark", slots.Mark(f, k%2, sum(b)), api.OK)
	}
	return f
}

// torn asks, behind Mark in which the power may have gone, for what P603 says; and tells whether the new entry is there.
func torn(t *testing.T, f *flash.Flash, fresh slots.Entry, image []byte) bool {
	t.Helper()
	was, old := slots.Boot(f)
	e := slots.Mark(f, fresh.Slot, fresh.Sum)
	if f.Dead() != (e == api.ErrDead) || e != api.OK && e != api.ErrDead {
		t.Fatalf("Mark: %v", e)
	}
	f.Start()
	now, b := slots.Boot(f)
	switch {
	case now == fresh && bytes.Equal(b, image):
		return true
	case e == api.OK:
		t.Fatalf("it was written, and %d is told", now.Seq)
	case now != was || !bytes.Equal(b, old):
		t.Fatalf("neither the elder one nor the newer: %d, slot %d", now.Seq, now.Slot)
	}
	return false
}

func TestP603Torn(t *testing.T) {
	there, lacks := 0, 0
	for full := range 2*most + 3 {
		begun := all(marked(t, full))
		for stop := 1; stop <= each+2; stop++ {
			for i, mask := range masks() {
				f := load(begun)
				f.Stop(stop, mask)
				slot := (full + i) % 3
				b := [][]byte{one, two, nil}[slot]
				if torn(t, f, of(full+1, slot, b), b) {
					there++
				} else {
					lacks++
				}
				now, _ := slots.Boot(f)
				if !torn(t, f, of(now.Seq+1, 1, two), two) {
					t.Fatal("Mark, with power, behind a torn one")
				}
			}
		}
	}
	if min(there, lacks) < 1000 {
		t.Errorf("%d times it is there, %d times not", there, lacks)
	}
}

// TestP603TornAgainAndAgain: the power goes in Mark after Mark, also in one that follows a torn one.
func TestP603TornAgainAndAgain(t *testing.T) {
	d := dice(603)
	l := masks()
	there, lacks := 0, 0
	for range 60 {
		f := marked(t, d.below(40))
		for range 60 {
			f.Stop(1+d.below(each+3), l[d.below(len(l))])
			slot := d.below(3)
			b := [][]byte{one, two, nil}[slot]
			now, _ := slots.Boot(f)
			if torn(t, f, of(now.Seq+1, slot, b), b) {
				there++
			} else {
				lacks++
			}
		}
	}
	if min(there, lacks) < 500 {
		t.Errorf("%d times it is there, %d times not", there, lacks)
	}
}

// TestP603TheVeryFirst: there is no elder one; what is told is the factory's, till the first entry is whole.
func TestP603TheVeryFirst(t *testing.T) {
	for stop := 1; stop <= each; stop++ {
		for again := 1; again <= each+1; again++ {
			for _, mask := range masks() {
				f := marked(t, 0)
				f.Stop(stop, mask)
				if torn(t, f, of(1, 0, one), one) {
					continue
				}
				boots(t, "the factory's", f, none, nil)
				f.Stop(again, mask)
				if torn(t, f, of(1, 1, two), two) {
					continue
				}
				boots(t, "the factory's", f, none, nil)
				if !torn(t, f, of(1, 0, one), one) {
					t.Fatal("with power")
				}
			}
		}
	}
}

// TestP603TheNewerSectorIsNotErased: wherever the power goes, the entry that was written last is still there.
func TestP603TheNewerSectorIsNotErased(t *testing.T) {
	for full := 1; full < 2*most+3; full++ {
		begun := all(marked(t, full))
		newer := (full - 1) / most % 2
		for stop := 1; stop <= each+2; stop++ {
			for _, mask := range masks() {
				f := load(begun)
				f.Stop(stop, mask)
				slots.Mark(f, 2, api.Hash{})
				f.Start()
				was, _ := record.Load(load(begun), newer)
				l, _ := record.Load(f, newer)
				if len(l) < len(was) || !slices.EqualFunc(l[:len(was)], was, bytes.Equal) {
					t.Fatalf("%d, %d: entries of the newer sector are gone", full, stop)
				}
			}
		}
	}
}
