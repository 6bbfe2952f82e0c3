package bus_test

import (
	"bytes"
	"testing"

	"joystick/api"
	"joystick/bus"
	"joystick/rom"
)

const (
	bank  = api.BankSize
	paper = api.RamSize                 // where the PAPER begins in a Dump
	where = api.RamSize + api.PaperSize // where the MAPPER does
)

// cartridge answers a Rom of so many banks, whose bytes tell bank and offset apart.
func cartridge(banks int) *rom.Rom {
	b := make([]byte, banks*bank)
	for i := range b {
		b[i] = byte(i%bank*7 + i%bank>>8*13 + i/bank*31 + 1)
	}
	return rom.New(b)
}

// mixed answers bytes of a bus's size, of which no half is as another one, with that MAPPER.
func mixed(mapper [4]byte) []byte {
	d := make([]byte, api.BusSize)
	for i := range d {
		d[i] = byte(i*5 + i>>8*11 + i>>13*29 + 3)
	}
	copy(d[where:], mapper[:])
	return d
}

// loaded answers a bus that has taken those bytes.
func loaded(t *testing.T, r *rom.Rom, d []byte) *bus.Bus {
	t.Helper()
	b := bus.New(r)
	if e := b.Load(d); e != api.OK {
		t.Fatal("Load:", e)
	}
	return b
}

// readOf tells by the document's words what Read answers of a bus with that Dump.
func readOf(r *rom.Rom, d []byte, a int) byte {
	m := d[where:]
	switch {
	case a >= 49152:
		return d[a&8191]
	case a >= 32768 && m[0]&8 != 0 && m[0]&4 != 0:
		return d[paper+16384+a&16383]
	case a >= 32768 && m[0]&8 != 0:
		return d[paper+a&16383]
	case a >= 32768:
		return r.At(int(m[3]), a&16383)
	case a >= 16384:
		return r.At(int(m[2]), a&16383)
	case a >= 1024:
		return r.At(int(m[1]), a)
	}
	return r.At(0, a)
}

// placeOf tells by the document's words which byte of a Dump a Write changes first; below 0 is none.
func placeOf(d []byte, a int) int {
	m0 := d[where]
	switch {
	case a >= 49152:
		return a & 8191
	case a >= 32768 && m0&12 == 12:
		return paper + 16384 + a&16383
	case a >= 32768 && m0&8 == 8:
		return paper + a&16383
	}
	return -1
}

// edges are addresses at which something else begins, and those beside them.
func edges() []int {
	var out []int
	for _, a := range []int{0, 1024, 8192, 16384, 16384 + 1024, 24576, 32768, 32768 + 1024, 40960, 49152, 57344, 65528, 65532} {
		for _, by := range []int{-2, -1, 0, 1, 2, 3} {
			if a+by >= 0 {
				out = append(out, a+by)
			}
		}
	}
	return out
}

// P2.1

func TestNewIsZerosAndTheFirstBanks(t *testing.T) {
	for _, banks := range []int{1, 4, 256} {
		b := bus.New(cartridge(banks))
		if m := b.Mapper(); m != [4]byte{0, 0, 1, 2} {
			t.Errorf("%d banks: the MAPPER is %v", banks, m)
		}
		want := make([]byte, api.BusSize)
		copy(want[where:], []byte{0, 0, 1, 2})
		if !bytes.Equal(b.Dump(), want) {
			t.Errorf("%d banks: RAM and PAPER aren't zeros", banks)
		}
	}
}

func TestNewShowsTheFirstThreeBanksAndRam(t *testing.T) {
	r := cartridge(4)
	b := bus.New(r)
	for a := range 65536 {
		want := byte(0)
		if a < 3*bank {
			want = r.At(a/bank, a%bank)
		}
		if got := b.Read(uint16(a)); got != want {
			t.Fatalf("Read(%x) is %d, not %d", a, got, want)
		}
	}
}

func TestMapperTellsWhatWasWritten(t *testing.T) {
	b := bus.New(cartridge(1))
	want := [4]byte{0, 0, 1, 2}
	for _, v := range []byte{255, 128, 0, 7} {
		for i := range want {
			b.Write(uint16(0xFFFC+i), v+byte(i))
			want[i] = v + byte(i)
			if m := b.Mapper(); m != want {
				t.Errorf("the MAPPER is %v, not %v", m, want)
			}
		}
	}
}

// P2.2

func TestReadOfAllAddresses(t *testing.T) {
	for _, m := range [][4]byte{{0, 0, 1, 2}, {0, 3, 2, 1}, {8, 5, 6, 7}, {12, 9, 8, 15}, {4, 1, 1, 1}, {0xF3, 2, 0, 4}} {
		r := cartridge(16)
		d := mixed(m)
		b := loaded(t, r, d)
		for a := range 65536 {
			if got, want := b.Read(uint16(a)), readOf(r, d, a); got != want {
				t.Fatalf("MAPPER %v: Read(%x) is %d, not %d", m, a, got, want)
			}
		}
	}
}

func TestReadAtTheEdgesOfEveryFirstByte(t *testing.T) {
	r := cartridge(8)
	for m0 := range 256 {
		d := mixed([4]byte{byte(m0), 3, 5, 6})
		b := loaded(t, r, d)
		for _, a := range edges() {
			if got, want := b.Read(uint16(a)), readOf(r, d, a); got != want {
				t.Errorf("M0 %d: Read(%x) is %d, not %d", m0, a, got, want)
			}
		}
	}
}

func TestBanksAreTakenModuloThoseThereAre(t *testing.T) {
	for _, banks := range []int{1, 2, 8, 256} {
		r := cartridge(banks)
		b := bus.New(r)
		for n := range 256 {
			for slot := range 3 {
				b.Write(uint16(0xFFFD+slot), byte(n))
				a := slot*bank + 5000
				if got, want := b.Read(uint16(a)), r.At(n%banks, 5000); got != want {
					t.Errorf("%d banks, bank %d: Read(%x) is %d, not %d", banks, n, a, got, want)
				}
			}
		}
	}
}

func TestTheFirst1024AreBank0(t *testing.T) {
	r := cartridge(4)
	b := bus.New(r)
	b.Write(0xFFFD, 3)
	b.Write(0xFFFE, 3)
	b.Write(0xFFFF, 3)
	for i, c := range []struct {
		a            uint16
		bank, offset int
	}{{0, 0, 0}, {1023, 0, 1023}, {1024, 3, 1024}, {16383, 3, 16383}, {16384, 3, 0}, {17407, 3, 1023}, {32768, 3, 0}, {33791, 3, 1023}} {
		if got, want := b.Read(c.a), r.At(c.bank, c.offset); got != want {
			t.Error(i, got, want)
		}
	}
}

func TestRamIsSeenTwice(t *testing.T) {
	b := bus.New(cartridge(1))
	b.Write(0xC000, 1)
	b.Write(0xFFFB, 2)
	b.Write(0xE123, 3)
	for i, c := range []struct {
		a uint16
		v byte
	}{{0xC000, 1}, {0xE000, 1}, {0xDFFB, 2}, {0xFFFB, 2}, {0xC123, 3}, {0xE123, 3}, {0xDFFC, 0}} {
		if got := b.Read(c.a); got != c.v {
			t.Error(i, got)
		}
	}
}

func TestThePaperComesAndGoes(t *testing.T) {
	r := cartridge(4)
	b := bus.New(r)
	rest := r.At(2, 100)
	b.Write(0xFFFC, 8)
	b.Write(0x8064, rest+1)
	b.Write(0xFFFC, 12)
	b.Write(0x8064, rest+2)
	for i, c := range []struct{ m0, v byte }{{0, rest}, {8, rest + 1}, {4, rest}, {12, rest + 2}, {3, rest}, {0xF8, rest + 1}, {0xFF, rest + 2}, {0xF7, rest}} {
		b.Write(0xFFFC, c.m0)
		if got := b.Read(0x8064); got != c.v {
			t.Error(i, got, c.v)
		}
	}
}

func TestReadChangesNothing(t *testing.T) {
	for _, m0 := range []byte{0, 8, 12} {
		d := mixed([4]byte{m0, 1, 2, 3})
		b := loaded(t, cartridge(4), d)
		for a := range 65536 {
			b.Read(uint16(a))
		}
		if !bytes.Equal(b.Dump(), d) {
			t.Errorf("M0 %d: changed", m0)
		}
	}
}

// P2.3

func TestWriteChangesOnePlaceOrNone(t *testing.T) {
	r := cartridge(4)
	for m0 := range 16 {
		d := mixed([4]byte{byte(m0), 1, 2, 3})
		b := bus.New(r)
		for _, a := range edges() {
			if b.Load(d) != api.OK {
				t.Fatal("Load")
			}
			want := bytes.Clone(d)
			v := byte(0x55)
			if p := placeOf(d, a); p >= 0 {
				v = d[p] ^ 0x2F
				want[p] = v
			}
			if a >= 65532 {
				want[where+a-65532] = v
			}
			b.Write(uint16(a), v)
			if !bytes.Equal(b.Dump(), want) {
				t.Errorf("M0 %d: Write to %x changes something else than it should", m0, a)
			}
		}
	}
}

func TestWriteOfAllAddressesIsReadAgain(t *testing.T) {
	for _, m0 := range []byte{0, 4, 8, 12} {
		r := cartridge(4)
		d := mixed([4]byte{m0, 1, 2, 3})
		b := loaded(t, r, d)
		for a := range 65532 {
			v := byte(a*3 + a>>8 + 1)
			if p := placeOf(d, a); p >= 0 {
				d[p] = v
			}
			b.Write(uint16(a), v)
			if got, want := b.Read(uint16(a)), readOf(r, d, a); got != want {
				t.Fatalf("M0 %d: Read(%x) is %d, not %d", m0, a, got, want)
			}
		}
		if !bytes.Equal(b.Dump(), d) {
			t.Errorf("M0 %d: the Dump is another one", m0)
		}
	}
}

func TestMapperIsWrittenAtTheLastFourAddresses(t *testing.T) {
	b := bus.New(cartridge(4))
	for i := range 4 {
		b.Write(uint16(0xDFFC+i), 9)
		b.Write(uint16(0xFFF8+i), 9)
		b.Write(uint16(0xBFFC+i), 9)
		b.Write(uint16(0x1FFC+i), 9)
	}
	if m := b.Mapper(); m != [4]byte{0, 0, 1, 2} {
		t.Errorf("the MAPPER is %v", m)
	}
	for i := range 4 {
		b.Write(uint16(0xFFFC+i), byte(20+i))
		if b.Read(uint16(0xFFFC+i)) != byte(20+i) || b.Read(uint16(0xDFFC+i)) != byte(20+i) {
			t.Errorf("%d: not in the RAM too", i)
		}
	}
	if m := b.Mapper(); m != [4]byte{20, 21, 22, 23} {
		t.Errorf("the MAPPER is %v", m)
	}
	b.Write(0xDFFD, 1)
	if b.Read(0xFFFD) != 1 || b.Mapper()[1] != 21 {
		t.Error("RAM and MAPPER aren't two things")
	}
}

func TestTheExampleOfFive(t *testing.T) {
	r := cartridge(8)
	b := bus.New(r)
	b.Write(0xFFFE, 5)
	for i := range bank {
		if b.Read(uint16(bank+i)) != r.At(5, i) {
			t.Fatal("not the bank 5 at", i)
		}
	}
}

func TestTheCartridgeStaysWhatever(t *testing.T) {
	r := cartridge(4)
	before := r.Bytes()
	b := bus.New(r)
	for a := range 0xC000 {
		b.Write(uint16(a), 0xAA)
	}
	if !bytes.Equal(r.Bytes(), before) {
		t.Error("written over")
	}
}

// P2.4 and Errors

func TestDumpIsRamPaperMapper(t *testing.T) {
	b := bus.New(cartridge(4))
	b.Write(0xC000, 1)
	b.Write(0xFFFB, 2)
	b.Write(0xFFFC, 8)
	b.Write(0x8000, 3)
	b.Write(0xBFFF, 4)
	b.Write(0xFFFC, 12)
	b.Write(0x8000, 5)
	b.Write(0xBFFF, 6)
	b.Write(0xFFFD, 7)
	b.Write(0xFFFE, 8)
	b.Write(0xFFFF, 9)
	want := make([]byte, 40964)
	for at, v := range map[int]byte{
		0: 1, 8187: 2, 8188: 12, 8189: 7, 8190: 8, 8191: 9,
		8192: 3, 24575: 4, 24576: 5, 40959: 6,
		40960: 12, 40961: 7, 40962: 8, 40963: 9,
	} {
		want[at] = v
	}
	if !bytes.Equal(b.Dump(), want) {
		t.Error("the Dump is another one")
	}
}

func TestLoadIsAsInADump(t *testing.T) {
	r := cartridge(8)
	for _, m := range [][4]byte{{0, 0, 1, 2}, {8, 3, 4, 5}, {12, 6, 7, 255}, {255, 255, 255, 255}} {
		d := mixed(m)
		b := loaded(t, r, d)
		if b.Mapper() != m || !bytes.Equal(b.Dump(), d) {
			t.Errorf("%v: not as it was dumped", m)
		}
		other := bus.New(r)
		if other.Load(b.Dump()) != api.OK {
			t.Fatal("a Dump isn't taken")
		}
		for a := range 65536 {
			if other.Read(uint16(a)) != b.Read(uint16(a)) {
				t.Fatalf("%v: Read(%x) differs", m, a)
			}
		}
	}
}

func TestLoadLaysAllBack(t *testing.T) {
	b := loaded(t, cartridge(8), mixed([4]byte{8, 1, 2, 3}))
	zeros := bus.New(cartridge(8)).Dump()
	if b.Load(zeros) != api.OK || !bytes.Equal(b.Dump(), zeros) {
		t.Error("something of before is left")
	}
}

func TestLoadOfOtherSizesChangesNothing(t *testing.T) {
	d := mixed([4]byte{12, 1, 2, 3})
	b := loaded(t, cartridge(4), d)
	for _, n := range []int{0, 1, 4, api.RamSize, api.PaperSize, where, api.BusSize - 1, api.BusSize + 1, 2 * api.BusSize} {
		if e := b.Load(make([]byte, n)); e != api.ErrBus {
			t.Errorf("%d bytes: %d", n, e)
		}
		if !bytes.Equal(b.Dump(), d) {
			t.Fatalf("%d bytes: changed", n)
		}
	}
	if b.Load(nil) != api.ErrBus || b.Load(make([]byte, 5, api.BusSize)) != api.ErrBus {
		t.Error("nil or spare room is taken")
	}
	if !bytes.Equal(b.Dump(), d) {
		t.Error("changed")
	}
}

// P1, P2 and the rules that hold everywhere

func TestWhatIsLoadedIsNeitherKeptNorChanged(t *testing.T) {
	d := mixed([4]byte{8, 1, 2, 3})
	want := bytes.Clone(d)
	b := loaded(t, cartridge(4), d)
	b.Write(0xC000, 99)
	b.Write(0x8000, 99)
	b.Write(0xFFFF, 99)
	if !bytes.Equal(d, want) {
		t.Error("changed")
	}
	after := b.Dump()
	clear(d)
	if !bytes.Equal(b.Dump(), after) {
		t.Error("kept")
	}
}

func TestDumpIsNewMemory(t *testing.T) {
	d := mixed([4]byte{8, 1, 2, 3})
	b := loaded(t, cartridge(4), d)
	first, second := b.Dump(), b.Dump()
	clear(first[:cap(first)])
	if !bytes.Equal(second, d) || !bytes.Equal(b.Dump(), d) {
		t.Error("answers share memory")
	}
	b.Write(0xC000, d[0]+1)
	if !bytes.Equal(second, d) {
		t.Error("an answer shares memory with the bus")
	}
}

func TestMapperIsACopy(t *testing.T) {
	b := bus.New(cartridge(4))
	m := b.Mapper()
	m[1] = 3
	if b.Mapper() != [4]byte{0, 0, 1, 2} {
		t.Error("changed from without")
	}
}

func TestBusesOfOneCartridgeStandAlone(t *testing.T) {
	r := cartridge(4)
	one, two := bus.New(r), bus.New(r)
	before := two.Dump()
	one.Write(0xFFFC, 8)
	one.Write(0x8000, 7)
	one.Write(0xC000, 7)
	one.Write(0xFFFE, 3)
	if !bytes.Equal(two.Dump(), before) || two.Read(0x4000) != r.At(1, 0) {
		t.Error("one bus tells of the other")
	}
}
