package repeat_test

import (
	"testing"

	"joystick/api"
	"joystick/repeat"
)

// The document's words, by numbers rather than by bits and masks.

// bit tells one of a byte's bits, from below, as a number.
func bit(v byte, place int) int {
	for range place {
		v /= 2
	}
	return int(v % 2)
}

// asByte tells what a byte holds of a number.
func asByte(n int) byte { return byte((n%256 + 256) % 256) }

// number tells 1, if it is; else 0.
func number(is bool) int {
	if is {
		return 1
	}
	return 0
}

// has tells whether a flag is there.
func has(f, flag byte) bool { return f/flag%2 == 1 }

// told are flags, one by one.
type told struct{ s, z, y, h, x, p, n, c bool }

// flags tells them as a byte.
func (t told) flags() byte {
	return byte(128*number(t.s) + 64*number(t.z) + 32*number(t.y) + 16*number(t.h) + 8*number(t.x) + 4*number(t.p) + 2*number(t.n) + number(t.c))
}

// evenOf tells whether a byte has an even number of ones.
func evenOf(v byte) bool {
	ones := 0
	for place := range 8 {
		ones += bit(v, place)
	}
	return ones%2 == 0
}

// loadOf tells what Load answers.
func loadOf(a, v, f byte, left uint16) told {
	n := asByte(int(a) + int(v))
	return told{
		s: has(f, 128), z: has(f, 64), c: has(f, 1),
		p: left != 0,
		y: bit(n, 1) == 1, x: bit(n, 3) == 1,
	}
}

// seekOf tells what Seek answers.
func seekOf(a, v, f byte, left uint16) (told, bool) {
	came := asByte(int(a) - int(v))
	half := a%16 < v%16
	n := asByte(int(came) - number(half))
	t := told{
		s: came > 127, z: a == v, h: half, n: true,
		c: has(f, 1),
		p: left != 0,
		y: bit(n, 1) == 1, x: bit(n, 3) == 1,
	}
	return t, left != 0 && a != v
}

// portOf tells what Port answers.
func portOf(v, with, b byte) told {
	both := int(v) + int(with)
	turned := b/8*8 + low(b, both)
	return told{
		s: b > 127, z: b == 0, y: bit(b, 5) == 1, x: bit(b, 3) == 1,
		n: v > 127,
		h: both > 255, c: both > 255,
		p: evenOf(turned),
	}
}

// low tells the three lowest bits, each one 1 where just one of the two has it.
func low(b byte, both int) byte {
	out, worth := 0, 1
	for place := range 3 {
		out += worth * number(bit(b, place) != bit(asByte(both), place))
		worth *= 2
	}
	return byte(out)
}

// eachTwo goes through any two bytes.
func eachTwo(do func(a, b byte)) {
	for a := range 256 {
		for b := range 256 {
			do(byte(a), byte(b))
		}
	}
}

// someFlags are none, each one alone, all but each one, and all.
func someFlags() []byte {
	out := []byte{0, 255}
	for place := range 8 {
		alone := byte(1) << place
		out = append(out, alone, 255-alone)
	}
	return out
}

// some are bytes at which something else begins.
func some() []byte {
	return []byte{0, 1, 2, 7, 8, 10, 15, 16, 32, 40, 63, 64, 127, 128, 129, 168, 240, 254, 255}
}

// lefts are numbers that are left: none, each bit alone, and others whose lower or higher byte is 0.
func lefts() []uint16 {
	out := []uint16{0, 255, 65280, 65535}
	for place := range 16 {
		out = append(out, 1<<place)
	}
	return out
}

const (
	c, n, p, x = api.FlagC, api.FlagN, api.FlagP, api.FlagX
	h, y, z, s = api.FlagH, api.FlagY, api.FlagZ, api.FlagS
)

// P9.1: Load

func TestLoadByHand(t *testing.T) {
	cases := []struct {
		a, v, f byte
		left    uint16
		g       byte
	}{
		{0, 0, 0, 0, 0},
		{0, 0, 0, 1, p},
		{0, 0, 0, 65535, p},
		// Not the lower byte of what is left alone, nor the higher one.
		{0, 0, 0, 256, p},
		{0, 0, 0, 255, p},
		// f's S, Z and C, and no other ones.
		{0, 0, 255, 0, s | z | c},
		{0, 0, y | h | x | p | n, 0, 0},
		{0, 0, s, 0, s},
		{0, 0, z, 0, z},
		{0, 0, c, 0, c},
		// What they come to says nothing of S, Z and C, not of v either.
		{1, 255, 0, 0, 0},
		{0, 128, 0, 0, 0},
		// FlagY is the bit 1 of both together, not the bit 5; FlagX is the bit 3.
		{1, 1, 0, 0, y},
		{0, 2, 0, 0, y},
		{2, 0, 0, 0, y},
		{2, 2, 0, 0, 0},
		{0, 32, 0, 0, 0},
		{4, 4, 0, 0, x},
		{8, 8, 0, 0, 0},
		{0, 8, 0, 0, x},
		{5, 5, 0, 1, y | x | p},
		// As a byte.
		{255, 11, 0, 0, y | x},
		{255, 3, 0, 0, y},
		{255, 255, 0, 0, y | x},
		{254, 254, 0, 0, x},
	}
	for _, k := range cases {
		if g := repeat.Load(k.a, k.v, k.f, k.left); g != k.g {
			t.Errorf("Load(%d, %d, %08b, %d) is %08b, not %08b", k.a, k.v, k.f, k.left, g, k.g)
		}
	}
}

func TestLoadOfAnyTwoBytes(t *testing.T) {
	flags, lefts := someFlags(), []uint16{0, 1, 256}
	eachTwo(func(a, v byte) {
		for _, f := range flags {
			for _, left := range lefts {
				if g, want := repeat.Load(a, v, f, left), loadOf(a, v, f, left).flags(); g != want {
					t.Fatalf("Load(%d, %d, %08b, %d) is %08b, not %08b", a, v, f, left, g, want)
				}
			}
		}
	})
}

func TestLoadWithAnyFlags(t *testing.T) {
	lefts := lefts()
	eachTwo(func(f, v byte) {
		for _, left := range lefts {
			if g, want := repeat.Load(f/2, v, f, left), loadOf(f/2, v, f, left).flags(); g != want {
				t.Fatalf("Load(%d, %d, %08b, %d) is %08b, not %08b", f/2, v, f, left, g, want)
			}
		}
	})
}

// P9.2: Seek

func TestTheExample(t *testing.T) {
	if f, on := repeat.Seek(5, 5, 0, 1); f != api.FlagZ|api.FlagP|api.FlagN || on {
		t.Errorf("Seek of 5 for 5, with 1 left: %08b, goes on: %v", f, on)
	}
}

func TestSeekByHand(t *testing.T) {
	cases := []struct {
		a, v, f byte
		left    uint16
		g       byte
		on      bool
	}{
		// One goes on, if something is left, and it isn't found.
		{5, 5, 0, 0, z | n, false},
		{5, 5, 0, 1, z | p | n, false},
		{5, 4, 0, 0, n, false},
		{5, 4, 0, 1, p | n, true},
		{5, 4, 0, 256, p | n, true},
		{5, 4, 0, 65535, p | n, true},
		// Of f its FlagC alone, though a is less; its FlagZ and FlagP don't count.
		{5, 4, 255, 0, n | c, false},
		{5, 4, 255 - c, 0, n, false},
		{5, 4, z, 1, p | n, true},
		{5, 5, c, 1, z | p | n | c, false},
		{0, 16, 0, 0, s | n, false},
		{0, 16, c, 0, s | n | c, false},
		// Too far says nothing of FlagP.
		{128, 1, 0, 0, y | h | x | n, false},
		{128, 16, 0, 0, n, false},
		// FlagY and FlagX of what came: its bits 1 and 3, not 5 and 3.
		{2, 0, 0, 0, y | n, false},
		{8, 0, 0, 0, x | n, false},
		{32, 0, 0, 0, n, false},
		{10, 0, 0, 0, y | x | n, false},
		// With FlagH of that less one more: of 8 it is 7, of 2 it is 1, of 11 it is 10.
		{16, 8, 0, 0, y | h | n, false},
		{16, 14, 0, 0, h | n, false},
		{16, 5, 0, 0, y | h | x | n, false},
		{16, 15, 0, 0, h | n, false},
		{16, 7, 0, 1, h | x | p | n, true},
		// Not by a FlagH of f's.
		{2, 0, h, 0, y | n, false},
		{0, 1, 0, 0, s | y | h | x | n, false},
	}
	for _, k := range cases {
		if g, on := repeat.Seek(k.a, k.v, k.f, k.left); g != k.g || on != k.on {
			t.Errorf("Seek(%d, %d, %08b, %d) is %08b, %v, not %08b, %v", k.a, k.v, k.f, k.left, g, on, k.g, k.on)
		}
	}
}

// holdSeek holds Seek against the document's words.
func holdSeek(t *testing.T, a, v, f byte, left uint16) {
	t.Helper()
	g, on := repeat.Seek(a, v, f, left)
	if want, goes := seekOf(a, v, f, left); g != want.flags() || on != goes {
		t.Fatalf("Seek(%d, %d, %08b, %d) is %08b, %v, not %08b, %v", a, v, f, left, g, on, want.flags(), goes)
	}
}

func TestSeekOfAnyTwoBytes(t *testing.T) {
	flags, lefts := someFlags(), []uint16{0, 1, 256}
	eachTwo(func(a, v byte) {
		for _, f := range flags {
			for _, left := range lefts {
				holdSeek(t, a, v, f, left)
			}
		}
	})
}

func TestSeekWithAnyFlags(t *testing.T) {
	lefts := lefts()
	eachTwo(func(f, v byte) {
		for _, left := range lefts {
			holdSeek(t, v, v, f, left)
			holdSeek(t, f/2, v, f, left)
		}
	})
}

// P9.3: Port

func TestPortByHand(t *testing.T) {
	cases := []struct{ v, with, b, g byte }{
		{0, 0, 0, z | p},
		// The Shape of b.
		{0, 0, 1, 0},
		{0, 0, 128, s},
		{0, 0, 32, y},
		{0, 0, 8, x},
		{0, 0, 64, 0},
		{0, 0, 255, s | y | x | p},
		// FlagN as v's bit 7; not with's, not that of both.
		{128, 0, 0, z | p | n},
		{127, 0, 0, z},
		{0, 128, 0, z | p},
		{64, 64, 0, z | p},
		{192, 192, 0, z | h | p | n | c},
		// FlagH and FlagC above 255, not at it.
		{255, 0, 0, z | n},
		{0, 255, 0, z},
		{255, 1, 0, z | h | p | n | c},
		{1, 255, 0, z | h | p | c},
		{255, 255, 0, z | h | n | c | p},
		{128, 127, 0, z | n},
		{128, 128, 0, z | h | p | n | c},
		{15, 1, 0, z | p},
		// FlagP of b turned by the lowest three bits of both together.
		{1, 0, 0, z},
		{2, 0, 0, z},
		{4, 0, 0, z},
		{8, 0, 0, z | p},
		{3, 0, 0, z | p},
		{3, 4, 0, z},
		{7, 1, 0, z | p},
		{1, 0, 1, p},
		{1, 0, 2, p},
		{1, 0, 3, 0},
		{1, 0, 64, p},
		{2, 2, 16, p},
		{2, 1, 16, 0},
	}
	for _, k := range cases {
		if g := repeat.Port(k.v, k.with, k.b); g != k.g {
			t.Errorf("Port(%d, %d, %d) is %08b, not %08b", k.v, k.with, k.b, g, k.g)
		}
	}
}

func TestPortOfAnyTwoBytes(t *testing.T) {
	others := append(some(), someFlags()...)
	eachTwo(func(v, with byte) {
		for _, b := range others {
			if g, want := repeat.Port(v, with, b), portOf(v, with, b).flags(); g != want {
				t.Fatalf("Port(%d, %d, %d) is %08b, not %08b", v, with, b, g, want)
			}
		}
	})
}

func TestPortWithAnyByteLeft(t *testing.T) {
	others := append(some(), someFlags()...)
	eachTwo(func(v, b byte) {
		for _, with := range others {
			if g, want := repeat.Port(v, with, b), portOf(v, with, b).flags(); g != want {
				t.Fatalf("Port(%d, %d, %d) is %08b, not %08b", v, with, b, g, want)
			}
		}
	})
}

// P2

func TestAskedAgainTheSameAnswer(t *testing.T) {
	type answer struct {
		load, seek, port byte
		on               bool
	}
	ask := func(a, v byte) answer {
		var out answer
		left := uint16(a) * uint16(v)
		out.load = repeat.Load(a, v, ^a, left)
		out.seek, out.on = repeat.Seek(a, v, ^v, left)
		out.port = repeat.Port(a, v, a^v)
		return out
	}
	eachTwo(func(a, v byte) {
		before := ask(a, v)
		ask(v, ^a)
		if again := ask(a, v); again != before {
			t.Fatalf("of %d and %d: %v, and then %v", a, v, before, again)
		}
	})
}
