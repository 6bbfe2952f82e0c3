package turns_test

import (
	"math"
	"testing"

	"joystick/api"
	"joystick/turns"
)

// The document's words, by numbers rather than by bits and masks.

// eight are a byte's bits, from below, each one 0 or 1.
type eight [8]int

// bitsOf tells a byte's bits.
func bitsOf(v byte) eight {
	var out eight
	for place := range out {
		out[place] = int(v % 2)
		v /= 2
	}
	return out
}

// whole tells the byte that has these bits.
func (e eight) whole() byte {
	v, worth := 0, 1
	for _, one := range e {
		v += worth * one
		worth *= 2
	}
	return byte(v)
}

// number tells 1, if it is; else 0.
func number(is bool) int {
	if is {
		return 1
	}
	return 0
}

// has tells whether a flag is there.
func has(f, flag byte) bool { return f/flag%2 == 1 }

// told are flags, one by one.
type told struct{ s, z, y, h, x, p, n, c bool }

// flags tells them as a byte.
func (t told) flags() byte {
	return byte(128*number(t.s) + 64*number(t.z) + 32*number(t.y) + 16*number(t.h) + 8*number(t.x) + 4*number(t.p) + 2*number(t.n) + number(t.c))
}

// saidOf tells a Shape, and FlagP, if Parity.
func saidOf(v byte) told {
	all, ones := bitsOf(v), 0
	for _, one := range all {
		ones += one
	}
	return told{s: all[7] == 1, z: v == 0, y: all[5] == 1, x: all[3] == 1, p: ones%2 == 0}
}

// turnOf tells what comes of a byte by an op of Rot from 0 to 7, and what falls out.
func turnOf(op int, v byte, carry int) (byte, int) {
	was := bitsOf(v)
	top, bottom := was[7], was[0]
	in := [8]int{top, bottom, carry, carry, 0, top, 1, 0}[op]
	var now eight
	if op%2 == 0 {
		copy(now[1:], was[:7])
		now[0] = in
		return now.whole(), top
	}
	copy(now[:7], was[1:])
	now[7] = in
	return now.whole(), bottom
}

// rotOf tells what Rot answers of an op from 0 to 7.
func rotOf(op int, v, f byte) (byte, told) {
	now, out := turnOf(op, v, number(has(f, 1)))
	t := saidOf(now)
	t.c = out == 1
	return now, t
}

// quickOf tells what Quick answers of an op from 0 to 3.
func quickOf(op int, a, f byte) (byte, told) {
	now, t := rotOf(op, a, f)
	t.s, t.z, t.p = has(f, 128), has(f, 64), has(f, 4)
	return now, t
}

// bitOf tells what Bit answers of a bit from 0 to 7.
func bitOf(n int, v, f, from byte) told {
	asked, other := bitsOf(v)[n], bitsOf(from)
	return told{
		z: asked == 0, p: asked == 0,
		s: asked == 1 && n == 7,
		h: true,
		c: has(f, 1),
		y: other[5] == 1, x: other[3] == 1,
	}
}

// putOf tells what Put answers of a bit from 0 to 7.
func putOf(n int, v byte, on bool) byte {
	all := bitsOf(v)
	all[n] = number(on)
	return all.whole()
}

// digitsOf tells what Digits answers.
func digitsOf(left bool, a, m, f byte) (byte, byte, told) {
	upper, low := a/16, a%16
	mUpper, mLow := m/16, m%16
	newA, newM := 16*upper+mLow, 16*low+mUpper
	if left {
		newA, newM = 16*upper+mUpper, 16*mLow+low
	}
	t := saidOf(newA)
	t.c = has(f, 1)
	return newA, newM, t
}

// eachTwo goes through any two bytes.
func eachTwo(do func(a, b byte)) {
	for a := range 256 {
		for b := range 256 {
			do(byte(a), byte(b))
		}
	}
}

// someFlags are none, each one alone, all but each one, and all.
func someFlags() []byte {
	out := []byte{0, 255}
	for place := range 8 {
		alone := byte(1) << place
		out = append(out, alone, 255-alone)
	}
	return out
}

// beyond are numbers beyond what counts of them, those below 0 too, each beside what its lowest four bits are.
func beyond() [][2]int {
	return [][2]int{
		{8, 8}, {9, 9}, {10, 10}, {11, 11}, {12, 12}, {13, 13}, {14, 14}, {15, 15},
		{16, 0}, {17, 1}, {255, 15}, {256, 0}, {1 << 32, 0}, {1<<32 + 5, 5}, {-1 << 32, 0},
		{-1, 15}, {-2, 14}, {-3, 13}, {-4, 12}, {-5, 11}, {-6, 10}, {-7, 9}, {-8, 8}, {-9, 7}, {-16, 0}, {-255, 1},
		{math.MaxInt, 15}, {math.MaxInt - 1, 14}, {math.MinInt, 0}, {math.MinInt + 1, 1}, {math.MinInt + 6, 6},
	}
}

const (
	c, n, p, x = api.FlagC, api.FlagN, api.FlagP, api.FlagX
	h, y, z, s = api.FlagH, api.FlagY, api.FlagZ, api.FlagS
)

// P8.1: Rot

func TestTheExample(t *testing.T) {
	if v, f := turns.Rot(0, 129, 0); v != 3 || f != api.FlagP|api.FlagC {
		t.Errorf("Rot 0 of 129: %d with %08b", v, f)
	}
}

// turned is a byte, and what comes of it by an op.
type turned struct {
	op   int
	v, f byte
	w, g byte
}

// holdTurned holds a call against what was reckoned by hand.
func holdTurned(t *testing.T, name string, call func(op int, v, f byte) (byte, byte), cases []turned) {
	t.Helper()
	for _, k := range cases {
		if w, g := call(k.op, k.v, k.f); w != k.w || g != k.g {
			t.Errorf("%s(%d, %08b, %08b) is %08b with %08b, not %08b with %08b", name, k.op, k.v, k.f, w, g, k.w, k.g)
		}
	}
}

func TestRotByHand(t *testing.T) {
	holdTurned(t, "Rot", turns.Rot, []turned{
		// What falls out comes in at the other end.
		{0, 0x80, 0, 0x01, c},
		{0, 0x01, c, 0x02, 0},
		{0, 0x00, 255, 0x00, z | p},
		{0, 0xFF, 0, 0xFF, s | y | x | p | c},
		{1, 0x01, 0, 0x80, s | c},
		{1, 0x80, c, 0x40, 0},
		{1, 0x10, 0, 0x08, x},
		{1, 0x40, 0, 0x20, y},
		// f's FlagC comes in, and what falls out doesn't.
		{2, 0x80, 0, 0x00, z | p | c},
		{2, 0x80, c, 0x01, c},
		{2, 0x00, c, 0x01, 0},
		{2, 0x00, 255 - c, 0x00, z | p},
		{3, 0x01, 0, 0x00, z | p | c},
		{3, 0x01, c, 0x80, s | c},
		{3, 0x00, c, 0x80, s},
		{3, 0x00, 255 - c, 0x00, z | p},
		// 0 comes in, or 1, or the top bit stays: f's FlagC counts nowhere.
		{4, 0x80, c, 0x00, z | p | c},
		{4, 0x41, c, 0x82, s | p},
		{5, 0x80, 0, 0xC0, s | p},
		{5, 0x81, 0, 0xC0, s | p | c},
		{5, 0x7F, c, 0x3F, y | x | p | c},
		{5, 0x01, c, 0x00, z | p | c},
		{6, 0x00, 0, 0x01, 0},
		{6, 0x80, 0, 0x01, c},
		{6, 0xFF, c, 0xFF, s | y | x | p | c},
		{7, 0x80, c, 0x40, 0},
		{7, 0x01, c, 0x00, z | p | c},
		{7, 0xFF, c, 0x7F, y | x | c},
		// The lowest three bits of the op.
		{8, 0x80, 0, 0x01, c},
		{13, 0x81, 0, 0xC0, s | p | c},
		{-1, 0x81, 0, 0x40, c},
		{-2, 0x80, 0, 0x01, c},
		{-8, 0x80, 0, 0x01, c},
	})
}

func TestRotOfEachByteWithAnyFlags(t *testing.T) {
	for op := range 8 {
		eachTwo(func(v, f byte) {
			now, g := turns.Rot(op, v, f)
			if want, flags := rotOf(op, v, f); now != want || g != flags.flags() {
				t.Fatalf("Rot(%d, %08b, %08b) is %08b with %08b, not %08b with %08b", op, v, f, now, g, want, flags.flags())
			}
		})
	}
}

func TestOfRotsOpThreeBitsCount(t *testing.T) {
	for _, op := range beyond() {
		eachTwo(func(v, f byte) {
			now, g := turns.Rot(op[0], v, f)
			if want, flags := rotOf(op[1]%8, v, f); now != want || g != flags.flags() {
				t.Fatalf("Rot(%d, %08b, %08b) is %08b with %08b, not %08b with %08b", op[0], v, f, now, g, want, flags.flags())
			}
		})
	}
}

// P8.2: Quick

func TestQuickByHand(t *testing.T) {
	holdTurned(t, "Quick", turns.Quick, []turned{
		// f's S, Z and P stand, whatever came; its others are gone.
		{0, 0x80, 0, 0x01, c},
		{0, 0x00, 0, 0x00, 0},
		{0, 0x00, 255, 0x00, s | z | p},
		{0, 0x40, 0, 0x80, 0},
		{0, 0x40, z, 0x80, z},
		{0, 0xFF, p, 0xFF, p | y | x | c},
		{1, 0x01, 0, 0x80, c},
		{1, 0x01, h | n | y | x, 0x80, c},
		{1, 0x50, s, 0x28, s | y | x},
		{2, 0x80, 0, 0x00, c},
		{2, 0x80, c, 0x01, c},
		{2, 0x14, c, 0x29, y | x},
		{3, 0x01, 0, 0x00, c},
		{3, 0x01, c, 0x80, c},
		{3, 0x00, c | n, 0x80, 0},
		// What was in a's bits 5 and 3 isn't told, but what came there.
		{0, 0x28, 0, 0x50, 0},
		{1, 0x28, 0, 0x14, 0},
		// The lowest two bits of the op.
		{4, 0x80, 0, 0x01, c},
		{5, 0x80, 0, 0x40, 0},
		{6, 0x00, 0, 0x00, 0},
		{7, 0x00, c, 0x80, 0},
		{-1, 0x00, c, 0x80, 0},
		{-4, 0x80, 0, 0x01, c},
	})
}

func TestQuickOfEachByteWithAnyFlags(t *testing.T) {
	for op := range 4 {
		eachTwo(func(a, f byte) {
			now, g := turns.Quick(op, a, f)
			if want, flags := quickOf(op, a, f); now != want || g != flags.flags() {
				t.Fatalf("Quick(%d, %08b, %08b) is %08b with %08b, not %08b with %08b", op, a, f, now, g, want, flags.flags())
			}
		})
	}
}

func TestOfQuicksOpTwoBitsCount(t *testing.T) {
	for _, op := range append(beyond(), [][2]int{{4, 4}, {5, 5}, {6, 6}, {7, 7}}...) {
		eachTwo(func(a, f byte) {
			now, g := turns.Quick(op[0], a, f)
			if want, flags := quickOf(op[1]%4, a, f); now != want || g != flags.flags() {
				t.Fatalf("Quick(%d, %08b, %08b) is %08b with %08b, not %08b with %08b", op[0], a, f, now, g, want, flags.flags())
			}
		})
	}
}

// P8.3: Bit, Put

func TestBitByHand(t *testing.T) {
	cases := []struct {
		n          int
		v, f, from byte
		g          byte
	}{
		{0, 0x01, 0, 0, h},
		{0, 0xFE, 0, 0, z | h | p},
		{6, 0x40, 0, 0, h},
		{6, 0xBF, 0, 0, z | h | p},
		// FlagS of the bit 7 alone, and if it is 1.
		{7, 0x80, 0, 0, s | h},
		{7, 0x7F, 0, 0, z | h | p},
		{6, 0xFF, 0, 0, h},
		{0, 0x80, 0, 0, z | h | p},
		// Of f its FlagC alone.
		{0, 0x01, c, 0, h | c},
		{0, 0x01, 255 - c, 0, h},
		{0, 0x00, 255, 0, z | h | p | c},
		// FlagY and FlagX as from's bits, not v's.
		{5, 0x20, 0, 0, h},
		{3, 0x28, 0, 0, h},
		{5, 0x00, 0, 0x20, z | y | h | p},
		{3, 0x00, 0, 0x08, z | h | x | p},
		{0, 0xFF, 0, 0xD7, h},
		{0, 0x01, 0, 0xFF, y | h | x},
		// The lowest three bits of n.
		{8, 0x01, 0, 0, h},
		{15, 0x80, 0, 0, s | h},
		{-1, 0x80, 0, 0, s | h},
		{-8, 0x01, 0, 0, h},
		{-9, 0x80, c, 0, s | h | c},
	}
	for _, k := range cases {
		if g := turns.Bit(k.n, k.v, k.f, k.from); g != k.g {
			t.Errorf("Bit(%d, %08b, %08b, %08b) is %08b, not %08b", k.n, k.v, k.f, k.from, g, k.g)
		}
	}
}

func TestEachBitOfEachByte(t *testing.T) {
	flags := someFlags()
	for n := range 8 {
		eachTwo(func(v, from byte) {
			for _, f := range flags {
				if g, want := turns.Bit(n, v, f, from), bitOf(n, v, f, from).flags(); g != want {
					t.Fatalf("Bit(%d, %08b, %08b, %08b) is %08b, not %08b", n, v, f, from, g, want)
				}
			}
		})
		eachTwo(func(v, f byte) {
			if g, want := turns.Bit(n, v, f, 255-v), bitOf(n, v, f, 255-v).flags(); g != want {
				t.Fatalf("Bit(%d, %08b, %08b, %08b) is %08b, not %08b", n, v, f, 255-v, g, want)
			}
		})
	}
}

func TestPutByHand(t *testing.T) {
	cases := []struct {
		n    int
		v    byte
		on   bool
		want byte
	}{
		{0, 0, true, 1},
		{0, 1, true, 1},
		{0, 1, false, 0},
		{0, 0, false, 0},
		{7, 0, true, 128},
		{7, 255, true, 255},
		{7, 255, false, 127},
		{7, 127, false, 127},
		{4, 0x0F, true, 0x1F},
		{4, 0xFF, false, 0xEF},
		{8, 0, true, 1},
		{12, 0xFF, false, 0xEF},
		{-1, 0, true, 128},
		{-8, 255, false, 254},
	}
	for _, k := range cases {
		if got := turns.Put(k.n, k.v, k.on); got != k.want {
			t.Errorf("Put(%d, %08b, %v) is %08b, not %08b", k.n, k.v, k.on, got, k.want)
		}
	}
}

func TestPutOfEachByte(t *testing.T) {
	for n := range 8 {
		for v := range 256 {
			for _, on := range []bool{false, true} {
				if got, want := turns.Put(n, byte(v), on), putOf(n, byte(v), on); got != want {
					t.Fatalf("Put(%d, %08b, %v) is %08b, not %08b", n, v, on, got, want)
				}
			}
		}
	}
}

func TestOfABitsNumberThreeBitsCount(t *testing.T) {
	for _, place := range beyond() {
		eachTwo(func(v, f byte) {
			if got, want := turns.Bit(place[0], v, f, f), bitOf(place[1]%8, v, f, f).flags(); got != want {
				t.Fatalf("Bit(%d, %08b, %08b, %08b) is %08b, not %08b", place[0], v, f, f, got, want)
			}
			on := f > v
			if got, want := turns.Put(place[0], v, on), putOf(place[1]%8, v, on); got != want {
				t.Fatalf("Put(%d, %08b, %v) is %08b, not %08b", place[0], v, on, got, want)
			}
		})
	}
}

func TestWhatWasPutIsAsked(t *testing.T) {
	for n := -20; n < 20; n++ {
		for v := range 256 {
			if g := turns.Bit(n, turns.Put(n, byte(v), true), 0, 0); has(g, z) {
				t.Fatalf("the bit %d of %08b was put, and is 0", n, v)
			}
			if g := turns.Bit(n, turns.Put(n, byte(v), false), 0, 0); !has(g, z) {
				t.Fatalf("the bit %d of %08b was put away, and is 1", n, v)
			}
		}
	}
}

// P8.4: Digits

func TestDigitsByHand(t *testing.T) {
	cases := []struct {
		left       bool
		a, m, f    byte
		newA, newM byte
		g          byte
	}{
		{true, 0x12, 0x34, 0, 0x13, 0x42, 0},
		{false, 0x12, 0x34, 0, 0x14, 0x23, p},
		{true, 0x7A, 0x31, c, 0x73, 0x1A, y | c},
		{false, 0x84, 0x20, 0, 0x80, 0x42, s},
		{false, 0x84, 0x20, c, 0x80, 0x42, s | c},
		// a's upper four stay; of a alone it is told, not of m.
		{true, 0x0F, 0x00, 0, 0x00, 0x0F, z | p},
		{false, 0x0F, 0x00, 0, 0x00, 0xF0, z | p},
		{true, 0x00, 0x0F, 0, 0x00, 0xF0, z | p},
		{true, 0x00, 0xF0, 0, 0x0F, 0x00, x | p},
		{false, 0x00, 0x0F, 0, 0x0F, 0x00, x | p},
		{false, 0x00, 0xF0, 0, 0x00, 0x0F, z | p},
		{true, 0xF0, 0x00, 0, 0xF0, 0x00, s | y | p},
		{false, 0x20, 0x08, 0, 0x28, 0x00, y | x | p},
		// Of f its FlagC alone.
		{true, 0x10, 0x00, 255, 0x10, 0x00, c},
		{false, 0x10, 0x00, 255 - c, 0x10, 0x00, 0},
	}
	for _, k := range cases {
		if a, m, g := turns.Digits(k.left, k.a, k.m, k.f); a != k.newA || m != k.newM || g != k.g {
			t.Errorf("Digits(%v, %02x, %02x, %08b) is %02x, %02x, %08b, not %02x, %02x, %08b", k.left, k.a, k.m, k.f, a, m, g, k.newA, k.newM, k.g)
		}
	}
}

func TestDigitsOfAnyTwoBytes(t *testing.T) {
	flags := someFlags()
	for _, left := range []bool{false, true} {
		eachTwo(func(a, m byte) {
			for _, f := range flags {
				newA, newM, g := turns.Digits(left, a, m, f)
				wantA, wantM, want := digitsOf(left, a, m, f)
				if newA != wantA || newM != wantM || g != want.flags() {
					t.Fatalf("Digits(%v, %02x, %02x, %08b) is %02x, %02x, %08b, not %02x, %02x, %08b", left, a, m, f, newA, newM, g, wantA, wantM, want.flags())
				}
			}
		})
	}
}

func TestDigitsThereAndBack(t *testing.T) {
	eachTwo(func(a, m byte) {
		newA, newM, _ := turns.Digits(true, a, m, 0)
		if backA, backM, _ := turns.Digits(false, newA, newM, 0); backA != a || backM != m {
			t.Fatalf("%02x and %02x go left, and back to %02x and %02x", a, m, backA, backM)
		}
	})
}

// P2

func TestAskedAgainTheSameAnswer(t *testing.T) {
	type answer struct{ v, f, w, g, bit, put, a, m, k byte }
	ask := func(op int, v, f byte) answer {
		var out answer
		out.v, out.f = turns.Rot(op, v, f)
		out.w, out.g = turns.Quick(op, v, f)
		out.bit = turns.Bit(op, v, f, ^f)
		out.put = turns.Put(op, v, f > v)
		out.a, out.m, out.k = turns.Digits(op > 3, v, f, v)
		return out
	}
	for op := range 8 {
		eachTwo(func(v, f byte) {
			before := ask(op, v, f)
			ask(op+1, f, v)
			if again := ask(op, v, f); again != before {
				t.Fatalf("%d of %08b and %08b: %v, and then %v", op, v, f, before, again)
			}
		})
	}
}
