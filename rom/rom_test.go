package rom_test

import (
	"bytes"
	"hash/fnv"
	"math"
	"testing"

	"joystick/api"
	"joystick/rom"
)

const (
	bank = api.BankSize
	most = api.MaxBanks * api.BankSize
)

// mixed answers n bytes, of which those at one offset differ from bank to bank.
func mixed(n int) []byte {
	b := make([]byte, n)
	for i := range b {
		b[i] = byte(i*7 + i/bank*31 + i>>8 + 1)
	}
	return b
}

// fnvSum is the same sum, made by the library.
func fnvSum(b []byte) uint32 {
	h := fnv.New32a()
	h.Write(b)
	return h.Sum32()
}

// modulo is never below 0.
func modulo(n, m int) int { return (n%m + m) % m }

// P1.1

func TestBanksBySize(t *testing.T) {
	cases := []struct{ size, banks int }{
		{0, 1}, {1, 1}, {bank - 1, 1}, {bank, 1},
		{bank + 1, 2}, {2*bank - 1, 2}, {2 * bank, 2},
		{2*bank + 1, 4}, {3 * bank, 4}, {4 * bank, 4},
		{4*bank + 1, 8}, {5 * bank, 8}, {8*bank + 1, 16},
		{100 * bank, 128}, {128 * bank, 128}, {128*bank + 1, 256},
		{most - 1, 256}, {most, 256}, {most + 1, 256}, {most + bank + 5, 256}, {2*most + 1, 256},
	}
	for _, c := range cases {
		r := rom.New(make([]byte, c.size))
		if got := r.Banks(); got != c.banks {
			t.Errorf("%d bytes: %d banks, not %d", c.size, got, c.banks)
		}
		if got := len(r.Bytes()); got != c.banks*bank {
			t.Errorf("%d bytes: Bytes has %d, not %d", c.size, got, c.banks*bank)
		}
	}
}

func TestEveryFullPowerAndOneByteMore(t *testing.T) {
	for banks := 1; banks <= api.MaxBanks; banks *= 2 {
		if got := rom.New(make([]byte, banks*bank)).Banks(); got != banks {
			t.Errorf("%d full banks: %d", banks, got)
		}
		want := min(2*banks, api.MaxBanks)
		if got := rom.New(make([]byte, banks*bank+1)).Banks(); got != want {
			t.Errorf("%d full banks and a byte: %d, not %d", banks, got, want)
		}
	}
}

func TestBytesAreThoseGivenThenZeros(t *testing.T) {
	for _, n := range []int{0, 1, 2, bank - 1, bank, bank + 1, 3*bank - 7, 5 * bank, most - 1, most} {
		b := mixed(n)
		got := rom.New(b).Bytes()
		if len(got) < n || !bytes.Equal(got[:n], b) {
			t.Errorf("%d bytes: Bytes doesn't begin with them", n)
			continue
		}
		if rest := got[n:]; !bytes.Equal(rest, make([]byte, len(rest))) {
			t.Errorf("%d bytes: what isn't filled is not 0", n)
		}
	}
}

func TestBytesBehindTheMostAreLeftOut(t *testing.T) {
	b := mixed(most + bank + 3)
	if got := rom.New(b).Bytes(); !bytes.Equal(got, b[:most]) {
		t.Error("Bytes isn't the first MaxBanks times BankSize")
	}
}

func TestNilIsABankOfZeros(t *testing.T) {
	r := rom.New(nil)
	if r.Banks() != 1 || !bytes.Equal(r.Bytes(), make([]byte, bank)) {
		t.Error("not one bank of zeros")
	}
}

func TestSpareRoomIsNotRead(t *testing.T) {
	room := bytes.Repeat([]byte{9}, 2*bank)
	got := rom.New(room[:3]).Bytes()
	want := append([]byte{9, 9, 9}, make([]byte, bank-3)...)
	if !bytes.Equal(got, want) {
		t.Error("what lies behind the bytes got in")
	}
}

// P1.2

func TestAtIsTheByteOfTheBank(t *testing.T) {
	for _, n := range []int{1, bank, bank + 5, 3 * bank, 7*bank + 9} {
		r := rom.New(mixed(n))
		all := r.Bytes()
		for i, want := range all {
			if got := r.At(i/bank, i%bank); got != want {
				t.Fatalf("%d bytes: At(%d, %d) is %d, not %d", n, i/bank, i%bank, got, want)
			}
		}
	}
}

func TestAtTakesBothModulo(t *testing.T) {
	numbers := []int{
		0, 1, 2, 3, 4, 5, 255, 256, 257, -1, -2, -3, -4, -5, -255, -256, -257,
		bank - 1, bank, bank + 1, -bank + 1, -bank, -bank - 1, 1 << 20, -(1 << 20) - 3,
		math.MaxInt32, math.MinInt32, math.MaxInt, math.MaxInt - 1, math.MinInt, math.MinInt + 1,
	}
	for _, n := range []int{0, 100, bank + 1, 4 * bank, 5 * bank, most} {
		r := rom.New(mixed(n))
		all := r.Bytes()
		for _, which := range numbers {
			for _, offset := range numbers {
				place := modulo(which, r.Banks())*bank + modulo(offset, bank)
				if got := r.At(which, offset); got != all[place] {
					t.Errorf("%d bytes: At(%d, %d) is %d, not %d", n, which, offset, got, all[place])
				}
			}
		}
	}
}

func TestAtBelowNothing(t *testing.T) {
	b := mixed(3 * bank)
	r := rom.New(b)
	if r.At(-1, 0) != 0 || r.At(-1, -1) != 0 {
		t.Error("bank -1 of four isn't the last, empty one")
	}
	if r.At(-2, -1) != b[3*bank-1] {
		t.Error("bank -2 of four, offset -1, isn't the last byte of bank 2")
	}
	if r.At(1, bank) != b[bank] || r.At(0, bank) == b[bank] {
		t.Error("an offset of BankSize goes on into the next bank")
	}
}

func TestSumByHand(t *testing.T) {
	ramp := make([]byte, 3*bank)
	for i := range ramp {
		ramp[i] = byte(i)
	}
	cases := []struct {
		b   []byte
		sum uint32
	}{
		{nil, 946445765},
		{[]byte{1}, 2759892420},
		{[]byte("joystick"), 2663215567},
		{bytes.Repeat([]byte{255}, bank+1), 4027702586},
		{ramp, 834002373},
	}
	for i, c := range cases {
		if got := rom.New(c.b).Sum(); got != c.sum {
			t.Errorf("%d: %d, not %d", i, got, c.sum)
		}
	}
}

func TestSumIsThatOfBytes(t *testing.T) {
	for _, n := range []int{0, 1, bank - 1, bank, bank + 1, 5*bank + 77, most, most + 1} {
		r := rom.New(mixed(n))
		if got, want := r.Sum(), fnvSum(r.Bytes()); got != want {
			t.Errorf("%d bytes: %d, not %d", n, got, want)
		}
	}
}

func TestSumCountsWhatIsLeftAlone(t *testing.T) {
	b := mixed(most + 9)
	if rom.New(b).Sum() != rom.New(b[:most]).Sum() {
		t.Error("what is left out counts")
	}
	if rom.New([]byte{5, 0, 0}).Sum() != rom.New([]byte{5}).Sum() {
		t.Error("zeros that would be filled in all the same count")
	}
	if rom.New(make([]byte, bank+1)).Sum() == rom.New(make([]byte, bank)).Sum() {
		t.Error("a bank of zeros more doesn't count")
	}
	if rom.New([]byte{1, 2}).Sum() == rom.New([]byte{2, 1}).Sum() {
		t.Error("the bytes' order doesn't count")
	}
}

// P1, P2 and the rules that hold everywhere

func TestWhatIsHandedInIsNotKept(t *testing.T) {
	for _, n := range []int{bank, 2 * bank, bank + 3, most} {
		b := mixed(n)
		r := rom.New(b)
		want := mixed(n)
		clear(b)
		if !bytes.Equal(r.Bytes()[:n], want) || r.At(0, 0) != want[0] {
			t.Errorf("%d bytes: kept", n)
		}
		if r.Sum() != fnvSum(r.Bytes()) || r.Sum() != rom.New(want).Sum() {
			t.Errorf("%d bytes: kept for Sum", n)
		}
	}
}

func TestWhatIsHandedInIsNotChanged(t *testing.T) {
	room := mixed(2 * bank)
	r := rom.New(room[: bank+3 : 2*bank])
	r.Sum()
	clear(r.Bytes())
	if !bytes.Equal(room, mixed(2*bank)) {
		t.Error("changed")
	}
}

func TestBytesAreNewMemory(t *testing.T) {
	r := rom.New(mixed(bank + 3))
	before := r.Sum()
	first, second := r.Bytes(), r.Bytes()
	want := bytes.Clone(first)
	clear(first[:cap(first)])
	if !bytes.Equal(second, want) || !bytes.Equal(r.Bytes(), want) {
		t.Error("two answers share memory")
	}
	if r.At(0, 0) != want[0] || r.Sum() != before {
		t.Error("an answer shares memory with the cartridge")
	}
}

func TestSumStaysWhateverIsAskedBetween(t *testing.T) {
	b := mixed(2 * bank)
	early, late := rom.New(b), rom.New(b)
	first := early.Sum()
	for i := range 100 {
		if early.At(i, -i) != late.At(i, -i) {
			t.Fatal("At hangs on whether Sum was asked")
		}
	}
	if early.Sum() != first || late.Sum() != first {
		t.Error("Sum hangs on when it is asked")
	}
}

func TestCartridgesStandAlone(t *testing.T) {
	one, two := rom.New([]byte{1}), rom.New([]byte{2})
	if one.Sum() == two.Sum() || one.At(0, 0) != 1 || two.At(0, 0) != 2 {
		t.Error("one cartridge tells of the other")
	}
}
