package sums_test

import (
	"math"
	"testing"

	"joystick/api"
	"joystick/sums"
)

// The document's words, by numbers rather than by bits and masks.

// bit tells one of a byte's bits, from below, as a number.
func bit(v byte, place int) int {
	for range place {
		v /= 2
	}
	return int(v % 2)
}

// signed tells a byte as a number from -128 to 127.
func signed(v byte) int {
	if v > 127 {
		return int(v) - 256
	}
	return int(v)
}

// asByte tells what a byte holds of a number.
func asByte(n int) byte { return byte((n%256 + 256) % 256) }

// number tells 1, if it is; else 0.
func number(is bool) int {
	if is {
		return 1
	}
	return 0
}

// has tells whether a flag is there.
func has(f, flag byte) bool { return f/flag%2 == 1 }

// told are flags, one by one.
type told struct{ s, z, y, h, x, p, n, c bool }

// flags tells them as a byte.
func (t told) flags() byte {
	return byte(128*number(t.s) + 64*number(t.z) + 32*number(t.y) + 16*number(t.h) + 8*number(t.x) + 4*number(t.p) + 2*number(t.n) + number(t.c))
}

// toldBy tells a byte as flags.
func toldBy(f byte) told {
	return told{s: has(f, 128), z: has(f, 64), y: has(f, 32), h: has(f, 16), x: has(f, 8), p: has(f, 4), n: has(f, 2), c: has(f, 1)}
}

// evenOf tells what Parity answers.
func evenOf(v byte) bool {
	ones := 0
	for place := range 8 {
		ones += bit(v, place)
	}
	return ones%2 == 0
}

// shapeOf tells a Shape.
func shapeOf(v byte) told {
	return told{s: bit(v, 7) == 1, z: v == 0, y: bit(v, 5) == 1, x: bit(v, 3) == 1}
}

// shapeAndParityOf tells a Shape, and FlagP, if Parity.
func shapeAndParityOf(v byte) told {
	t := shapeOf(v)
	t.p = evenOf(v)
	return t
}

// addOf tells what Add answers.
func addOf(a, b byte, carry bool) (byte, told) {
	one := number(carry)
	v := asByte(int(a) + int(b) + one)
	t := shapeOf(v)
	t.c = int(a)+int(b)+one > 255
	t.h = int(a%16)+int(b%16)+one > 15
	whole := signed(a) + signed(b) + one
	t.p = whole < -128 || whole > 127
	return v, t
}

// subOf tells what Sub answers.
func subOf(a, b byte, carry bool) (byte, told) {
	one := number(carry)
	v := asByte(int(a) - int(b) - one)
	t := shapeOf(v)
	t.n = true
	t.c = int(a)-int(b)-one < 0
	t.h = int(a%16)-int(b%16)-one < 0
	whole := signed(a) - signed(b) - one
	t.p = whole < -128 || whole > 127
	return v, t
}

// byBits tells what comes bit by bit, of how many of the two are 1.
func byBits(a, b byte, is func(ones int) bool) byte {
	v, worth := 0, 1
	for place := range 8 {
		v += worth * number(is(bit(a, place)+bit(b, place)))
		worth *= 2
	}
	return byte(v)
}

func andOf(a, b byte) (byte, told) {
	v := byBits(a, b, func(ones int) bool { return ones == 2 })
	t := shapeAndParityOf(v)
	t.h = true
	return v, t
}

func orOf(a, b byte) (byte, told) {
	v := byBits(a, b, func(ones int) bool { return ones > 0 })
	return v, shapeAndParityOf(v)
}

func xorOf(a, b byte) (byte, told) {
	v := byBits(a, b, func(ones int) bool { return ones == 1 })
	return v, shapeAndParityOf(v)
}

// compareOf tells what Compare answers.
func compareOf(a, b byte) told {
	_, t := subOf(a, b, false)
	t.y, t.x = bit(b, 5) == 1, bit(b, 3) == 1
	return t
}

// doOf tells what Do answers of an op from 0 to 7.
func doOf(op int, a, b, f byte) (byte, told) {
	switch op {
	case 0:
		return addOf(a, b, false)
	case 1:
		return addOf(a, b, has(f, 1))
	case 2:
		return subOf(a, b, false)
	case 3:
		return subOf(a, b, has(f, 1))
	case 4:
		return andOf(a, b)
	case 5:
		return xorOf(a, b)
	case 6:
		return orOf(a, b)
	}
	return a, compareOf(a, b)
}

// daaOf tells what Daa answers.
func daaOf(a, f byte) (byte, told) {
	low, high := 0, 0
	if has(f, 16) || a%16 > 9 {
		low = 6
	}
	if has(f, 1) || a > 153 {
		high = 96
	}
	v := asByte(int(a) + low + high)
	if has(f, 2) {
		v = asByte(int(a) - low - high)
	}
	t := shapeAndParityOf(v)
	t.n = has(f, 2)
	t.c = high != 0
	t.h = bit(a, 4) != bit(v, 4)
	return v, t
}

// flipOf tells what Flip answers of an op from 0 to 2.
func flipOf(op int, a, f byte) (byte, told) {
	was := toldBy(f)
	t := told{s: was.s, z: was.z, p: was.p}
	v := a
	switch op {
	case 0:
		v = byte(255 - int(a))
		t.c, t.h, t.n = was.c, true, true
	case 1:
		t.c = true
	case 2:
		t.c, t.h = !was.c, was.c
	}
	t.y, t.x = bit(v, 5) == 1, bit(v, 3) == 1
	return v, t
}

// eachTwo goes through any two bytes.
func eachTwo(do func(a, b byte)) {
	for a := range 256 {
		for b := range 256 {
			do(byte(a), byte(b))
		}
	}
}

// some are bytes at which something else begins.
var some = []byte{0, 1, 2, 5, 8, 9, 10, 15, 16, 31, 32, 40, 63, 64, 95, 96, 127, 128, 129, 143, 144, 153, 154, 160, 170, 213, 239, 240, 249, 250, 254, 255}

// sum is one of the calls that answer a byte and flags of two bytes.
type sum struct {
	name string
	got  func(a, b byte) (byte, byte)
	want func(a, b byte) (byte, told)
}

// holds holds a sum of any two bytes against the document's words.
func (s sum) holds(t *testing.T) {
	t.Helper()
	eachTwo(func(a, b byte) {
		v, f := s.got(a, b)
		wantV, want := s.want(a, b)
		if v != wantV || f != want.flags() {
			t.Fatalf("%s of %d and %d is %d with the flags %08b, not %d with %08b", s.name, a, b, v, f, wantV, want.flags())
		}
	})
}

// The types

func TestTheFlagsStandWhereTheDocumentSays(t *testing.T) {
	got := [8]byte{api.FlagC, api.FlagN, api.FlagP, api.FlagX, api.FlagH, api.FlagY, api.FlagZ, api.FlagS}
	if got != [8]byte{1, 2, 4, 8, 16, 32, 64, 128} {
		t.Error("the flags are", got)
	}
}

// P6.1: Parity, Shape

func TestParityByHand(t *testing.T) {
	for v, want := range map[byte]bool{0: true, 1: false, 2: false, 3: true, 7: false, 15: true, 128: false, 129: true, 127: false, 254: false, 255: true, 0x55: true, 0xAB: false} {
		if sums.Parity(v) != want {
			t.Errorf("Parity(%08b) isn't %v", v, want)
		}
	}
}

func TestParityOfEachByte(t *testing.T) {
	for v := range 256 {
		if sums.Parity(byte(v)) != evenOf(byte(v)) {
			t.Errorf("Parity(%08b) isn't %v", v, evenOf(byte(v)))
		}
	}
}

func TestShapeByHand(t *testing.T) {
	for v, want := range map[byte]byte{0: 64, 1: 0, 4: 0, 8: 8, 16: 0, 32: 32, 40: 40, 64: 0, 127: 40, 128: 128, 215: 128, 168: 168, 255: 168} {
		if got := sums.Shape(v); got != want {
			t.Errorf("Shape(%d) is %d, not %d", v, got, want)
		}
	}
}

func TestShapeOfEachByte(t *testing.T) {
	for v := range 256 {
		if got, want := sums.Shape(byte(v)), shapeOf(byte(v)).flags(); got != want {
			t.Errorf("Shape(%d) is %08b, not %08b", v, got, want)
		}
	}
}

// P6.2: Add, Sub

func TestTheExample(t *testing.T) {
	if v, f := sums.Add(127, 1, false); v != 128 || f != api.FlagS|api.FlagH|api.FlagP {
		t.Errorf("127 and 1: %d with %08b", v, f)
	}
}

func TestAddByHand(t *testing.T) {
	cases := []struct {
		a, b  byte
		carry bool
		v, f  byte
	}{
		{0, 0, false, 0, api.FlagZ},
		{0, 0, true, 1, 0},
		{15, 0, false, 15, api.FlagX},
		{15, 0, true, 16, api.FlagH},
		{8, 8, false, 16, api.FlagH},
		{8, 7, false, 15, api.FlagX},
		{8, 7, true, 16, api.FlagH},
		{255, 0, false, 255, api.FlagS | api.FlagY | api.FlagX},
		{255, 0, true, 0, api.FlagZ | api.FlagH | api.FlagC},
		{255, 255, true, 255, api.FlagS | api.FlagY | api.FlagX | api.FlagH | api.FlagC},
		{240, 16, false, 0, api.FlagZ | api.FlagC},
		{126, 1, false, 127, api.FlagY | api.FlagX},
		{126, 1, true, 128, api.FlagS | api.FlagH | api.FlagP},
		{64, 64, false, 128, api.FlagS | api.FlagP},
		{128, 128, false, 0, api.FlagZ | api.FlagP | api.FlagC},
		{128, 255, false, 127, api.FlagY | api.FlagX | api.FlagP | api.FlagC},
		{128, 255, true, 128, api.FlagS | api.FlagH | api.FlagC},
		{127, 128, true, 0, api.FlagZ | api.FlagH | api.FlagC},
	}
	for _, c := range cases {
		if v, f := sums.Add(c.a, c.b, c.carry); v != c.v || f != c.f {
			t.Errorf("Add(%d, %d, %v) is %d with %08b, not %d with %08b", c.a, c.b, c.carry, v, f, c.v, c.f)
		}
	}
}

func TestSubByHand(t *testing.T) {
	cases := []struct {
		a, b  byte
		carry bool
		v, f  byte
	}{
		{0, 0, false, 0, api.FlagZ | api.FlagN},
		{0, 0, true, 255, api.FlagS | api.FlagY | api.FlagX | api.FlagH | api.FlagN | api.FlagC},
		{1, 0, true, 0, api.FlagZ | api.FlagN},
		{5, 5, false, 0, api.FlagZ | api.FlagN},
		{16, 1, false, 15, api.FlagX | api.FlagH | api.FlagN},
		{16, 0, true, 15, api.FlagX | api.FlagH | api.FlagN},
		{31, 15, false, 16, api.FlagN},
		{31, 15, true, 15, api.FlagX | api.FlagH | api.FlagN},
		{16, 32, false, 240, api.FlagS | api.FlagY | api.FlagN | api.FlagC},
		{0, 255, false, 1, api.FlagH | api.FlagN | api.FlagC},
		{0, 255, true, 0, api.FlagZ | api.FlagH | api.FlagN | api.FlagC},
		{128, 1, false, 127, api.FlagY | api.FlagX | api.FlagH | api.FlagP | api.FlagN},
		{128, 0, true, 127, api.FlagY | api.FlagX | api.FlagH | api.FlagP | api.FlagN},
		{127, 255, false, 128, api.FlagS | api.FlagP | api.FlagN | api.FlagC},
		{127, 255, true, 127, api.FlagY | api.FlagX | api.FlagH | api.FlagN | api.FlagC},
		{0, 128, false, 128, api.FlagS | api.FlagP | api.FlagN | api.FlagC},
		{0, 128, true, 127, api.FlagY | api.FlagX | api.FlagH | api.FlagN | api.FlagC},
		{128, 128, false, 0, api.FlagZ | api.FlagN},
	}
	for _, c := range cases {
		if v, f := sums.Sub(c.a, c.b, c.carry); v != c.v || f != c.f {
			t.Errorf("Sub(%d, %d, %v) is %d with %08b, not %d with %08b", c.a, c.b, c.carry, v, f, c.v, c.f)
		}
	}
}

func TestAddAndSubOfAnyTwoBytes(t *testing.T) {
	for _, carry := range []bool{false, true} {
		sum{
			"Add",
			func(a, b byte) (byte, byte) { return sums.Add(a, b, carry) },
			func(a, b byte) (byte, told) { return addOf(a, b, carry) },
		}.holds(t)
		sum{
			"Sub",
			func(a, b byte) (byte, byte) { return sums.Sub(a, b, carry) },
			func(a, b byte) (byte, told) { return subOf(a, b, carry) },
		}.holds(t)
	}
}

// P6.3: And, Or, Xor, Compare, Do

func TestBitByBitByHand(t *testing.T) {
	cases := []struct {
		name string
		do   func(a, b byte) (byte, byte)
		a, b byte
		v, f byte
	}{
		{"And", sums.And, 0xF0, 0x0F, 0, api.FlagZ | api.FlagH | api.FlagP},
		{"And", sums.And, 0xFF, 0x01, 1, api.FlagH},
		{"And", sums.And, 0xFF, 0xA8, 0xA8, api.FlagS | api.FlagY | api.FlagX | api.FlagH},
		{"Or", sums.Or, 0, 0, 0, api.FlagZ | api.FlagP},
		{"Or", sums.Or, 0xF0, 0x0F, 0xFF, api.FlagS | api.FlagY | api.FlagX | api.FlagP},
		{"Or", sums.Or, 1, 1, 1, 0},
		{"Xor", sums.Xor, 0xFF, 0xFF, 0, api.FlagZ | api.FlagP},
		{"Xor", sums.Xor, 0xFF, 0x7F, 0x80, api.FlagS},
		{"Xor", sums.Xor, 0x0C, 0x05, 0x09, api.FlagX | api.FlagP},
	}
	for _, c := range cases {
		if v, f := c.do(c.a, c.b); v != c.v || f != c.f {
			t.Errorf("%s(%d, %d) is %d with %08b, not %d with %08b", c.name, c.a, c.b, v, f, c.v, c.f)
		}
	}
}

func TestBitByBitOfAnyTwoBytes(t *testing.T) {
	sum{"And", sums.And, andOf}.holds(t)
	sum{"Or", sums.Or, orOf}.holds(t)
	sum{"Xor", sums.Xor, xorOf}.holds(t)
}

func TestCompareByHand(t *testing.T) {
	cases := []struct{ a, b, f byte }{
		{5, 5, api.FlagZ | api.FlagN},
		// The bits 5 and 3 are b's, not those of what came.
		{40, 40, api.FlagZ | api.FlagY | api.FlagX | api.FlagN},
		{40, 0, api.FlagN},
		{0, 40, api.FlagS | api.FlagY | api.FlagX | api.FlagH | api.FlagN | api.FlagC},
		{0, 32, api.FlagS | api.FlagY | api.FlagN | api.FlagC},
		{16, 8, api.FlagX | api.FlagH | api.FlagN},
		{128, 1, api.FlagH | api.FlagP | api.FlagN},
		{127, 255, api.FlagS | api.FlagY | api.FlagX | api.FlagP | api.FlagN | api.FlagC},
	}
	for _, c := range cases {
		if got := sums.Compare(c.a, c.b); got != c.f {
			t.Errorf("Compare(%d, %d) is %08b, not %08b", c.a, c.b, got, c.f)
		}
	}
}

func TestCompareOfAnyTwoBytes(t *testing.T) {
	eachTwo(func(a, b byte) {
		if got, want := sums.Compare(a, b), compareOf(a, b).flags(); got != want {
			t.Fatalf("Compare(%d, %d) is %08b, not %08b", a, b, got, want)
		}
	})
}

func TestDoOfAnyTwoBytes(t *testing.T) {
	for op := range 8 {
		for _, f := range []byte{0, api.FlagC, 255 - api.FlagC, 255} {
			sum{
				"Do " + string(rune('0'+op)),
				func(a, b byte) (byte, byte) { return sums.Do(op, a, b, f) },
				func(a, b byte) (byte, told) { return doOf(op, a, b, f) },
			}.holds(t)
		}
	}
}

func TestDoReadsTheCarryAlone(t *testing.T) {
	for op := range 8 {
		for f := range 256 {
			for _, a := range some {
				for _, b := range some {
					v, g := sums.Do(op, a, b, byte(f))
					wantV, want := doOf(op, a, b, byte(f))
					if v != wantV || g != want.flags() {
						t.Fatalf("Do(%d, %d, %d, %d) is %d with %08b, not %d with %08b", op, a, b, f, v, g, wantV, want.flags())
					}
				}
			}
		}
	}
}

func TestOfDosOpThreeBitsCount(t *testing.T) {
	// Each is some eights and the op beside it, those below 0 too.
	ops := map[int]int{
		8: 0, 9: 1, 10: 2, 11: 3, 12: 4, 13: 5, 14: 6, 15: 7, 16: 0, 255: 7, 256: 0, 259: 3, 65541: 5,
		-1: 7, -2: 6, -3: 5, -4: 4, -5: 3, -6: 2, -7: 1, -8: 0, -9: 7, -256: 0, -255: 1,
		1<<32 + 1: 1, math.MaxInt: 7, math.MaxInt - 3: 4, math.MinInt: 0, math.MinInt + 6: 6,
	}
	for op, lowest := range ops {
		for _, f := range []byte{0, api.FlagC} {
			for _, a := range some {
				for _, b := range some {
					v, g := sums.Do(op, a, b, f)
					wantV, want := doOf(lowest, a, b, f)
					if v != wantV || g != want.flags() {
						t.Fatalf("Do(%d, %d, %d, %d) is %d with %08b, not %d with %08b, as of %d", op, a, b, f, v, g, wantV, want.flags(), lowest)
					}
				}
			}
		}
	}
}

// P6.4: Inc, Dec, Daa

func TestIncAndDecByHand(t *testing.T) {
	cases := []struct {
		name string
		do   func(v, f byte) (byte, byte)
		v, f byte
		w, g byte
	}{
		{"Inc", sums.Inc, 255, 0, 0, api.FlagZ | api.FlagH},
		{"Inc", sums.Inc, 255, 255, 0, api.FlagZ | api.FlagH | api.FlagC},
		{"Inc", sums.Inc, 0, 254, 1, 0},
		{"Inc", sums.Inc, 127, 0, 128, api.FlagS | api.FlagH | api.FlagP},
		{"Inc", sums.Inc, 15, api.FlagC, 16, api.FlagH | api.FlagC},
		{"Dec", sums.Dec, 0, 0, 255, api.FlagS | api.FlagY | api.FlagX | api.FlagH | api.FlagN},
		{"Dec", sums.Dec, 0, api.FlagC, 255, api.FlagS | api.FlagY | api.FlagX | api.FlagH | api.FlagN | api.FlagC},
		{"Dec", sums.Dec, 1, 254, 0, api.FlagZ | api.FlagN},
		{"Dec", sums.Dec, 128, 255, 127, api.FlagY | api.FlagX | api.FlagH | api.FlagP | api.FlagN | api.FlagC},
		{"Dec", sums.Dec, 16, 0, 15, api.FlagX | api.FlagH | api.FlagN},
	}
	for _, c := range cases {
		if w, g := c.do(c.v, c.f); w != c.w || g != c.g {
			t.Errorf("%s(%d, %08b) is %d with %08b, not %d with %08b", c.name, c.v, c.f, w, g, c.w, c.g)
		}
	}
}

func TestIncAndDecOfEachByteWithAnyFlags(t *testing.T) {
	sum{"Inc", sums.Inc, func(v, f byte) (byte, told) {
		w, t := addOf(v, 1, false)
		t.c = has(f, 1)
		return w, t
	}}.holds(t)
	sum{"Dec", sums.Dec, func(v, f byte) (byte, told) {
		w, t := subOf(v, 1, false)
		t.c = has(f, 1)
		return w, t
	}}.holds(t)
}

func TestDaaByHand(t *testing.T) {
	const c, n, p, x, h, y, z, s = api.FlagC, api.FlagN, api.FlagP, api.FlagX, api.FlagH, api.FlagY, api.FlagZ, api.FlagS
	cases := []struct{ a, f, v, g byte }{
		{0x00, 0, 0x00, z | p},
		{0x09, 0, 0x09, x | p},
		{0x0A, 0, 0x10, h},
		{0x0F, 0, 0x15, h},
		{0x09, h, 0x0F, x | p},
		{0x10, h, 0x16, 0},
		{0x99, 0, 0x99, s | x | p},
		{0x9A, 0, 0x00, z | h | p | c},
		{0x9A, n, 0x34, y | n | c},
		{0x99, c, 0xF9, s | y | x | p | c},
		{0xA0, 0, 0x00, z | p | c},
		{0xFF, 0, 0x65, h | y | p | c},
		{0x00, n | c, 0xA0, s | y | p | n | c},
		{0x00, n | h, 0xFA, s | y | x | h | p | n},
		{0x00, n | h | c, 0x9A, s | x | h | p | n | c},
		{0x00, s | z | y | x | p, 0x00, z | p},
	}
	for _, k := range cases {
		if v, g := sums.Daa(k.a, k.f); v != k.v || g != k.g {
			t.Errorf("Daa(%x, %08b) is %x with %08b, not %x with %08b", k.a, k.f, v, g, k.v, k.g)
		}
	}
}

func TestDaaOfEachByteWithAnyFlags(t *testing.T) {
	sum{"Daa", sums.Daa, daaOf}.holds(t)
}

// digits tells a number from 0 to 99 as a byte of two digits.
func digits(n int) byte { return byte(n/10*16 + n%10) }

func TestDaaMendsSumsOfTwoDigits(t *testing.T) {
	for a := range 100 {
		for b := range 100 {
			v, f := sums.Add(digits(a), digits(b), false)
			if v, f = sums.Daa(v, f); v != digits((a+b)%100) || has(f, 1) != (a+b > 99) {
				t.Fatalf("%d and %d: %x with %08b", a, b, v, f)
			}
			v, f = sums.Sub(digits(a), digits(b), false)
			if v, f = sums.Daa(v, f); v != digits((a-b+100)%100) || has(f, 1) != (a < b) {
				t.Fatalf("%d less %d: %x with %08b", a, b, v, f)
			}
		}
	}
}

// P6.5: Flip

func TestFlipByHand(t *testing.T) {
	const kept = api.FlagS | api.FlagZ | api.FlagP
	cases := []struct {
		op         int
		a, f, v, g byte
	}{
		{0, 0, 0, 255, api.FlagY | api.FlagX | api.FlagH | api.FlagN},
		{0, 255, 255, 0, kept | api.FlagC | api.FlagH | api.FlagN},
		{0, 0xD7, 0, 0x28, api.FlagY | api.FlagX | api.FlagH | api.FlagN},
		{1, 0, 0, 0, api.FlagC},
		{1, 255, 255, 255, kept | api.FlagC | api.FlagY | api.FlagX},
		{1, 0, 255, 0, kept | api.FlagC},
		{1, 32, api.FlagH | api.FlagN, 32, api.FlagC | api.FlagY},
		{2, 0, 0, 0, api.FlagC},
		{2, 0, api.FlagC, 0, api.FlagH},
		{2, 255, 255, 255, kept | api.FlagH | api.FlagY | api.FlagX},
		{2, 8, 254, 8, kept | api.FlagC | api.FlagX},
	}
	for _, c := range cases {
		if v, g := sums.Flip(c.op, c.a, c.f); v != c.v || g != c.g {
			t.Errorf("Flip(%d, %d, %08b) is %d with %08b, not %d with %08b", c.op, c.a, c.f, v, g, c.v, c.g)
		}
	}
}

func TestFlipOfEachByteWithAnyFlags(t *testing.T) {
	for op := range 3 {
		sum{
			"Flip " + string(rune('0'+op)),
			func(a, f byte) (byte, byte) { return sums.Flip(op, a, f) },
			func(a, f byte) (byte, told) { return flipOf(op, a, f) },
		}.holds(t)
	}
}

func TestFlipOfOtherOpsIsAAndF(t *testing.T) {
	for _, op := range []int{3, 4, 5, 6, 7, 8, 9, 10, 16, 255, 256, 257, 258, 65536, 1 << 32, 1<<32 + 1, -1, -2, -3, -4, -6, -7, -8, -256, math.MaxInt, math.MinInt, math.MinInt + 1, math.MinInt + 2} {
		eachTwo(func(a, f byte) {
			if v, g := sums.Flip(op, a, f); v != a || g != f {
				t.Fatalf("Flip(%d, %d, %08b) is %d with %08b", op, a, f, v, g)
			}
		})
	}
}

// P2

func TestAskedAgainTheSameAnswer(t *testing.T) {
	type answers struct {
		shape, compare, add, flagsOfAdd, do, flagsOfDo, daa, flagsOfDaa, flip, flagsOfFlip byte
	}
	ask := func(a, b byte) answers {
		var all answers
		all.shape, all.compare = sums.Shape(a), sums.Compare(a, b)
		all.add, all.flagsOfAdd = sums.Add(a, b, true)
		all.do, all.flagsOfDo = sums.Do(3, a, b, b)
		all.daa, all.flagsOfDaa = sums.Daa(a, b)
		all.flip, all.flagsOfFlip = sums.Flip(2, a, b)
		return all
	}
	first := map[[2]byte]answers{}
	eachTwo(func(a, b byte) { first[[2]byte{a, b}] = ask(a, b) })
	// The other way round, so that other calls were before.
	eachTwo(func(a, b byte) {
		if got := ask(255-a, 255-b); got != first[[2]byte{255 - a, 255 - b}] {
			t.Fatalf("%d and %d: asked again, another answer: %v", 255-a, 255-b, got)
		}
	})
}
