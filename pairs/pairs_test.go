package pairs_test

import (
	"testing"

	"joystick/api"
	"joystick/pairs"
)

// The document's words, by numbers rather than by bits and masks.

// bit tells one of a byte's bits, from below, as a number.
func bit(v byte, place int) int {
	for range place {
		v /= 2
	}
	return int(v % 2)
}

// signed tells a number as one from -32768 to 32767.
func signed(v uint16) int {
	if v > 32767 {
		return int(v) - 65536
	}
	return int(v)
}

// modulo tells what a number is modulo 65536.
func modulo(n int) uint16 { return uint16((n%65536 + 65536) % 65536) }

// number tells 1, if it is; else 0.
func number(is bool) int {
	if is {
		return 1
	}
	return 0
}

// has tells whether a flag is there.
func has(f, flag byte) bool { return f/flag%2 == 1 }

// told are flags, one by one.
type told struct{ s, z, y, h, x, p, n, c bool }

// flags tells them as a byte.
func (t told) flags() byte {
	return byte(128*number(t.s) + 64*number(t.z) + 32*number(t.y) + 16*number(t.h) + 8*number(t.x) + 4*number(t.p) + 2*number(t.n) + number(t.c))
}

// higher tells the higher byte of a number.
func higher(v uint16) byte { return byte(v / 256) }

// addOf tells what Add answers.
func addOf(a, b uint16, f byte) (uint16, told) {
	whole := int(a) + int(b)
	v := modulo(whole)
	return v, told{
		s: has(f, 128), z: has(f, 64), p: has(f, 4),
		y: bit(higher(v), 5) == 1, x: bit(higher(v), 3) == 1,
		h: int(a%4096)+int(b%4096) > 4095,
		c: whole > 65535,
	}
}

// adcOf tells what Adc answers.
func adcOf(a, b uint16, f byte) (uint16, told) {
	one := number(has(f, 1))
	whole := int(a) + int(b) + one
	withSign := signed(a) + signed(b) + one
	v := modulo(whole)
	return v, told{
		s: bit(higher(v), 7) == 1, y: bit(higher(v), 5) == 1, x: bit(higher(v), 3) == 1,
		z: v == 0,
		h: int(a%4096)+int(b%4096)+one > 4095,
		p: withSign < -32768 || withSign > 32767,
		c: whole > 65535,
	}
}

// sbcOf tells what Sbc answers.
func sbcOf(a, b uint16, f byte) (uint16, told) {
	one := number(has(f, 1))
	whole := int(a) - int(b) - one
	withSign := signed(a) - signed(b) - one
	v := modulo(whole)
	return v, told{
		s: bit(higher(v), 7) == 1, y: bit(higher(v), 5) == 1, x: bit(higher(v), 3) == 1,
		z: v == 0, n: true,
		h: int(a%4096)-int(b%4096)-one < 0,
		p: withSign < -32768 || withSign > 32767,
		c: whole < 0,
	}
}

// sum is one of the calls that answer a number and flags.
type sum struct {
	name string
	got  func(a, b uint16, f byte) (uint16, byte)
	want func(a, b uint16, f byte) (uint16, told)
}

// theSums are all of them.
func theSums() []sum {
	return []sum{{"Add", pairs.Add, addOf}, {"Adc", pairs.Adc, adcOf}, {"Sbc", pairs.Sbc, sbcOf}}
}

// holds holds a sum against the document's words.
func (s sum) holds(t *testing.T, a, b uint16, f byte) {
	t.Helper()
	v, g := s.got(a, b, f)
	wantV, want := s.want(a, b, f)
	if v != wantV || g != want.flags() {
		t.Fatalf("%s(%d, %d, %08b) is %d with %08b, not %d with %08b", s.name, a, b, f, v, g, wantV, want.flags())
	}
}

// edges are numbers at the edges of so many bits, and where a bit of the higher byte stands alone.
func edges() []uint16 {
	out := []uint16{0, 1, 2, 3, 0x1234, 0xABCD, 0x5555, 0xAAAA}
	for _, edge := range []int{0x80, 0x100, 0x0800, 0x1000, 0x2000, 0x2800, 0x4000, 0x7000, 0x8000, 0x9000, 0xF000, 0x10000} {
		for near := -2; near <= 2; near++ {
			out = append(out, modulo(edge+near))
		}
	}
	return out
}

// someFlags are none, each one alone, all but each one, and all.
func someFlags() []byte {
	out := []byte{0, 255}
	for place := range 8 {
		alone := byte(1) << place
		out = append(out, alone, 255-alone)
	}
	return out
}

// P7.1: Split, Join, Move

func TestSplitByHand(t *testing.T) {
	for v, want := range map[uint16][2]byte{0: {0, 0}, 1: {0, 1}, 255: {0, 255}, 256: {1, 0}, 0x1234: {0x12, 0x34}, 0x7FFF: {0x7F, 0xFF}, 0x8000: {0x80, 0}, 0xFF00: {0xFF, 0}, 0xFFFF: {0xFF, 0xFF}} {
		if high, low := pairs.Split(v); high != want[0] || low != want[1] {
			t.Errorf("Split(%d) is %d and %d, not %d and %d", v, high, low, want[0], want[1])
		}
		if got := pairs.Join(want[0], want[1]); got != v {
			t.Errorf("Join(%d, %d) is %d, not %d", want[0], want[1], got, v)
		}
	}
}

func TestSplitAndJoinOfEachNumber(t *testing.T) {
	for high := range 256 {
		for low := range 256 {
			v := uint16(high*256 + low)
			if got := pairs.Join(byte(high), byte(low)); got != v {
				t.Fatalf("Join(%d, %d) is %d, not %d", high, low, got, v)
			}
			if h, l := pairs.Split(v); int(h) != high || int(l) != low {
				t.Fatalf("Split(%d) is %d and %d, not %d and %d", v, h, l, high, low)
			}
		}
	}
}

func TestMoveByHand(t *testing.T) {
	cases := []struct {
		v    uint16
		by   byte
		want uint16
	}{
		{0, 0, 0},
		{0, 1, 1},
		{0, 127, 127},
		{0, 128, 65408},
		{0, 255, 65535},
		{127, 129, 0},
		{127, 128, 65535},
		{128, 128, 0},
		{255, 1, 256},
		{256, 255, 255},
		{32767, 1, 32768},
		{32768, 255, 32767},
		{65535, 0, 65535},
		{65535, 1, 0},
		{65535, 127, 126},
		{65535, 128, 65407},
		{65535, 255, 65534},
	}
	for _, c := range cases {
		if got := pairs.Move(c.v, c.by); got != c.want {
			t.Errorf("Move(%d, %d) is %d, not %d", c.v, c.by, got, c.want)
		}
	}
}

// moveOf tells what Move answers.
func moveOf(v uint16, by byte) uint16 {
	far := int(by)
	if far > 127 {
		far -= 256
	}
	return modulo(int(v) + far)
}

func TestMoveByEachByte(t *testing.T) {
	for v := range 65536 {
		for by := range 256 {
			if got, want := pairs.Move(uint16(v), byte(by)), moveOf(uint16(v), byte(by)); got != want {
				t.Fatalf("Move(%d, %d) is %d, not %d", v, by, got, want)
			}
		}
	}
}

// P7.2: Add

func TestTheExample(t *testing.T) {
	if v, f := pairs.Add(4095, 1, 0); v != 4096 || f != api.FlagH {
		t.Errorf("4095 and 1: %d with %08b", v, f)
	}
}

// byHand is a sum, and what comes of it.
type byHand struct {
	a, b uint16
	f    byte
	v    uint16
	g    byte
}

// holdByHand holds a call against what was reckoned by hand.
func holdByHand(t *testing.T, name string, call func(a, b uint16, f byte) (uint16, byte), cases []byHand) {
	t.Helper()
	for _, c := range cases {
		if v, g := call(c.a, c.b, c.f); v != c.v || g != c.g {
			t.Errorf("%s(%x, %x, %08b) is %x with %08b, not %x with %08b", name, c.a, c.b, c.f, v, g, c.v, c.g)
		}
	}
}

const (
	c, n, p, x = api.FlagC, api.FlagN, api.FlagP, api.FlagX
	h, y, z, s = api.FlagH, api.FlagY, api.FlagZ, api.FlagS
)

func TestAddByHand(t *testing.T) {
	holdByHand(t, "Add", pairs.Add, []byHand{
		// What came is 0, and has a sign, and went too far: f's S, Z and P stand all the same.
		{0, 0, 0, 0, 0},
		{0, 0, s | z | p, 0, s | z | p},
		{1, 1, z, 2, z},
		{0x4000, 0x4000, 0, 0x8000, 0},
		{0x4000, 0x4000, s, 0x8000, s},
		{0x4000, 0x4000, p, 0x8000, p},
		// f's others are gone, and its carry isn't added.
		{0, 0, h | n | c | y | x, 0, 0},
		{0x0FFF, 0, c, 0x0FFF, x},
		{0xFFFF, 0, c, 0xFFFF, y | x},
		// FlagH alone, FlagC alone, both.
		{0x0FFE, 1, 0, 0x0FFF, x},
		{0x0FFF, 0x0FFF, 0, 0x1FFE, h | x},
		{0x0800, 0x0800, 0, 0x1000, h},
		{0xF000, 0x1000, 0, 0, c},
		{0xF000, 0x0FFF, 0, 0xFFFF, y | x},
		{0xFFFF, 1, 0, 0, h | c},
		{0xFFFF, 0xFFFF, 255, 0xFFFE, s | z | p | y | x | h | c},
		// The higher byte's bits 5 and 3, not the lower one's.
		{0x0028, 0, 0, 0x0028, 0},
		{0x2000, 0, 0, 0x2000, y},
		{0x0400, 0x0400, 0, 0x0800, x},
		{0xD700, 0, 0, 0xD700, 0},
	})
}

// P7.3: Adc, Sbc

func TestAdcByHand(t *testing.T) {
	holdByHand(t, "Adc", pairs.Adc, []byHand{
		{0, 0, 0, 0, z},
		{0, 0, c, 1, 0},
		{0, 0, 255 - c, 0, z},
		{0, 0, 255, 1, 0},
		{0x0100, 0, 0, 0x0100, 0},
		{0x00FF, 0, 0, 0x00FF, 0},
		// The edge of twelve bits, with the carry and without.
		{0x0FFF, 0, 0, 0x0FFF, x},
		{0x0FFF, 0, c, 0x1000, h},
		{0x0FFF, 1, 0, 0x1000, h},
		{0x0FFF, 0x0FFF, c, 0x1FFF, h | x},
		// Of fifteen.
		{0x7FFE, 1, 0, 0x7FFF, y | x},
		{0x7FFE, 1, c, 0x8000, s | h | p},
		{0x7FFF, 0, c, 0x8000, s | h | p},
		{0x4000, 0x4000, 0, 0x8000, s | p},
		{0x8000, 0xFFFF, 0, 0x7FFF, y | x | p | c},
		{0x8000, 0xFFFF, c, 0x8000, s | h | c},
		{0x8000, 0x8000, 0, 0, z | p | c},
		{0x8000, 0x8000, c, 1, p | c},
		// Of sixteen.
		{0xFFFF, 0, 0, 0xFFFF, s | y | x},
		{0xFFFF, 0, c, 0, z | h | c},
		{0xF000, 0x1000, 0, 0, z | c},
		{0xFFFF, 0xFFFF, c, 0xFFFF, s | y | x | h | c},
		{0x7FFF, 0x8000, c, 0, z | h | c},
		{0x0028, 0, 0, 0x0028, 0},
		{0x2800, 0, s | z | p | h | n, 0x2800, y | x},
	})
}

func TestSbcByHand(t *testing.T) {
	holdByHand(t, "Sbc", pairs.Sbc, []byHand{
		{0, 0, 0, 0, z | n},
		{0, 0, c, 0xFFFF, s | y | x | h | n | c},
		{0, 0, 255 - c, 0, z | n},
		{1, 0, 255, 0, z | n},
		{0x1234, 0x1234, 0, 0, z | n},
		{0x0200, 0x0100, 0, 0x0100, n},
		// The edge of twelve bits, with the carry and without.
		{0x1000, 1, 0, 0x0FFF, x | h | n},
		{0x1000, 0, c, 0x0FFF, x | h | n},
		{0x1FFF, 0x0FFF, 0, 0x1000, n},
		{0x1FFF, 0x0FFF, c, 0x0FFF, x | h | n},
		// Of fifteen.
		{0x8000, 1, 0, 0x7FFF, y | x | h | p | n},
		{0x8000, 0, c, 0x7FFF, y | x | h | p | n},
		{0x8001, 1, 0, 0x8000, s | n},
		{0x7FFF, 0xFFFF, 0, 0x8000, s | p | n | c},
		{0x7FFF, 0xFFFF, c, 0x7FFF, y | x | h | n | c},
		{0, 0x8000, 0, 0x8000, s | p | n | c},
		{0, 0x8000, c, 0x7FFF, y | x | h | n | c},
		{0x8000, 0x8000, 0, 0, z | n},
		// Of sixteen.
		{0, 0xFFFF, 0, 1, h | n | c},
		{0, 0xFFFF, c, 0, z | h | n | c},
		{0x1000, 0x2000, 0, 0xF000, s | y | n | c},
		{0xFFFF, 0xFFFF, c, 0xFFFF, s | y | x | h | n | c},
		{0xFFFF, 0, 0, 0xFFFF, s | y | x | n},
		{0x2828, 0x2800, 0, 0x0028, n},
	})
}

func TestSumsAtTheEdgesWithAnyFlags(t *testing.T) {
	numbers := edges()
	for _, sum := range theSums() {
		for _, a := range numbers {
			for _, b := range numbers {
				for f := range 256 {
					sum.holds(t, a, b, byte(f))
				}
			}
		}
	}
}

func TestSumsOfEachNumberAndAnother(t *testing.T) {
	flags := someFlags()
	others := []uint16{0, 1, 0x0FFF, 0x1000, 0x28D7, 0x7FFF, 0x8000, 0xFFFF}
	for _, sum := range theSums() {
		for at, b := range others {
			for a := range 65536 {
				f := flags[(a+at)%len(flags)]
				sum.holds(t, uint16(a), b, f)
				sum.holds(t, b, uint16(a), f)
				// The same ones, with the carry the other way.
				sum.holds(t, uint16(a), b, f^api.FlagC)
				sum.holds(t, b, uint16(a), f^api.FlagC)
			}
		}
	}
}

func TestWhatWasTakenAwayComesBack(t *testing.T) {
	for _, f := range []byte{0, api.FlagC} {
		for a := range 65536 {
			b := uint16(a * 40503)
			v, g := pairs.Adc(uint16(a), b, f)
			if back, k := pairs.Sbc(v, b, f); back != uint16(a) || has(k, api.FlagC) != has(g, api.FlagC) {
				t.Fatalf("%d and %d, with %08b: %d, and back %d with %08b", a, b, f, v, back, k)
			}
		}
	}
}

// P2

func TestAskedAgainTheSameAnswer(t *testing.T) {
	type answer struct {
		v, moved  uint16
		f         byte
		high, low byte
	}
	type asked struct {
		sum  int
		a, b uint16
	}
	ask := func(q asked) answer {
		var out answer
		out.v, out.f = theSums()[q.sum].got(q.a, q.b, byte(q.b))
		out.moved = pairs.Move(q.a, byte(q.b))
		out.high, out.low = pairs.Split(q.a)
		return out
	}
	var all []asked
	for sum := range theSums() {
		for _, a := range edges() {
			for _, b := range edges() {
				all = append(all, asked{sum, a, b})
			}
		}
	}
	first := map[asked]answer{}
	for _, q := range all {
		first[q] = ask(q)
	}
	// The other way round, so that other calls were before.
	for at := len(all) - 1; at >= 0; at-- {
		if got := ask(all[at]); got != first[all[at]] {
			t.Fatalf("%v: asked again, another answer: %v, not %v", all[at], got, first[all[at]])
		}
	}
}
