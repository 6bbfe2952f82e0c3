package back_test

import (
	"bytes"
	"math"
	"math/rand"
	"slices"
	"testing"

	"joystick/api"
	"joystick/back"
)

// The chapter's numbers, written out, so that a wrong one in the package isn't followed.
const (
	vramSize = 16384
	shown    = 192
	wide     = 256
	ground   = 224
)

// registers are those that a line of the ground is handed.
type registers = [11]byte

// others are the registers that tell nothing of the ground.
var others = []int{1, 3, 4, 5, 6, 7, 10}

// far are numbers far from any line or column.
var far = []int{
	math.MinInt, math.MinInt + 1, math.MinInt + 15, math.MinInt + 191, math.MinInt + 192, math.MinInt + 255, math.MinInt / 2, math.MinInt/2 + 7, math.MinInt / 3,
	math.MinInt32, math.MinInt32 - 1, math.MinInt32 + 5, -1 << 40, -1<<40 + 3, -1<<32 + 5, -1 << 32, -1<<32 + 191, -1 << 16, -65535, -65536 + 200, -1024, -513, -512,
	math.MaxInt, math.MaxInt - 1, math.MaxInt - 15, math.MaxInt - 63, math.MaxInt - 64, math.MaxInt - 255, math.MaxInt / 2, math.MaxInt/2 + 7, math.MaxInt / 3,
	math.MaxInt32, math.MaxInt32 + 1, 1 << 40, 1<<40 + 3, 1<<32 + 5, 1 << 32, 1<<32 + 191, 1 << 16, 65535, 65536 + 200, 1024, 513, 512,
}

// memory is bytes of which any two places differ, nearly always.
func memory(size int) []byte {
	v := make([]byte, size)
	rand.New(rand.NewSource(17)).Read(v)
	return v
}

// anyRegisters are registers of any bytes.
func anyRegisters(dice *rand.Rand) registers {
	var regs registers
	for n := range regs {
		regs[n] = byte(dice.Intn(256))
	}
	return regs
}

// rest tells a number's remainder from 0 on.
func rest(n, many int) int { return (n%many + many) % many }

// bit tells whether a byte's bit is 1, by what the byte counts.
func bit(v byte, n int) bool { return int(v)/[8]int{1, 2, 4, 8, 16, 32, 64, 128}[n]%2 == 1 }

// sourceOf is what the chapter says of Source.
func sourceOf(regs registers, line, x int) (int, int) {
	if line < 0 || line > 191 {
		return 0, 0
	}
	x = rest(x, 256)
	column, down := rest(x-int(regs[8]), 256), rest(line+int(regs[9]), ground)
	if bit(regs[0], 6) && line <= 15 {
		column = x
	}
	if bit(regs[0], 7) && x >= 192 {
		down = rest(line, ground)
	}
	return column, down
}

// byteAt is a byte of memory; 0, if there is none.
func byteAt(v []byte, a int) byte {
	if a < len(v) {
		return v[a]
	}
	return 0
}

// dotOf is a tile's dot, of whose four bytes each has a bit.
func dotOf(v []byte, number, row, i int) byte {
	var dot byte
	for n, counts := range []byte{1, 2, 4, 8} {
		if bit(byteAt(v, 32*number+4*row+n), 7-i) {
			dot += counts
		}
	}
	return dot
}

// seenOf is what the chapter says of Line at one column.
func seenOf(v []byte, regs registers, line, x int) (byte, bool) {
	column, down := sourceOf(regs, line, x)
	place := int(regs[2])/2%8*2048 + 64*(down/8) + 2*(column/8)
	number, how := int(byteAt(v, place)), byteAt(v, place+1)
	if bit(how, 0) {
		number += 256
	}
	i, row := column%8, down%8
	if bit(how, 1) {
		i = 7 - i
	}
	if bit(how, 2) {
		row = 7 - row
	}
	dot := dotOf(v, number, row, i)
	if bit(how, 3) {
		return 16 + dot, bit(how, 4) && dot > 0
	}
	return dot, bit(how, 4) && dot > 0
}

// groundOf is what the chapter says of Line.
func groundOf(v []byte, regs registers, line int) back.Ground {
	var g back.Ground
	if line < 0 || line > 191 {
		return g
	}
	for x := range wide {
		g.Color[x], g.Front[x] = seenOf(v, regs, line, x)
	}
	return g
}

// holdSource holds Source against the chapter's words.
func holdSource(t *testing.T, regs registers, line, x int) {
	t.Helper()
	column, down := back.Source(regs, line, x)
	wantColumn, wantDown := sourceOf(regs, line, x)
	if column != wantColumn || down != wantDown {
		t.Fatalf("registers %v, line %d, x %d: %d and %d instead of %d and %d", regs, line, x, column, down, wantColumn, wantDown)
	}
}

// holdLine holds Line against the chapter's words.
func holdLine(t *testing.T, v []byte, regs registers, line int) {
	t.Helper()
	got, want := back.Line(v, regs, line), groundOf(v, regs, line)
	for x := range wide {
		if got.Color[x] != want.Color[x] || got.Front[x] != want.Front[x] {
			t.Fatalf("of %d bytes, registers %v, line %d, x %d: %d and %t instead of %d and %t", len(v), regs, line, x, got.Color[x], got.Front[x], want.Color[x], want.Front[x])
		}
	}
}

// The chapter's numbers

func TestNumbersOfThePicture(t *testing.T) {
	if api.Shown != shown || api.Wide != wide || api.VdpRegs != len(registers{}) || api.VramSize != vramSize {
		t.Error("a picture is of 192 lines of 256 dots, made of 16384 bytes, as 11 registers say")
	}
}

func TestExample(t *testing.T) {
	if column, line := back.Source(registers{8: 1}, 0, 0); column != 255 || line != 0 {
		t.Errorf("with R8 1, at x 0 the column %d of the line %d is seen", column, line)
	}
}

// P17.1 Source

func TestSourceByHand(t *testing.T) {
	for _, c := range []struct {
		zero, eight, nine byte
		line, x           int
		column, down      int
	}{
		{0, 0, 0, 0, 0, 0, 0}, {0, 0, 0, 191, 255, 255, 191}, {0, 0, 0, 100, 77, 77, 100},
		{0, 1, 0, 0, 0, 255, 0}, {0, 1, 0, 0, 1, 0, 0}, {0, 255, 0, 0, 0, 1, 0}, {0, 255, 0, 0, 255, 0, 0}, {0, 128, 0, 5, 127, 255, 5}, {0, 200, 0, 50, 10, 66, 50},
		{0, 0, 1, 0, 0, 0, 1}, {0, 0, 1, 191, 0, 0, 192}, {0, 0, 32, 191, 0, 0, 223}, {0, 0, 33, 191, 0, 0, 0}, {0, 0, 223, 0, 0, 0, 223}, {0, 0, 224, 0, 0, 0, 0}, {0, 0, 255, 0, 0, 0, 31}, {0, 0, 255, 191, 0, 0, 222}, {0, 0, 223, 1, 0, 0, 0}, {0, 0, 224, 191, 0, 0, 191},
		{64, 9, 3, 0, 20, 20, 3}, {64, 9, 3, 15, 20, 20, 18}, {64, 9, 3, 16, 20, 11, 19}, {64, 9, 3, 191, 200, 191, 194}, {191, 9, 3, 15, 20, 11, 18}, {127, 9, 3, 15, 0, 0, 18}, {64, 9, 3, 15, 3, 3, 18},
		{128, 9, 3, 0, 191, 182, 3}, {128, 9, 3, 0, 192, 183, 0}, {128, 9, 3, 191, 255, 246, 191}, {128, 9, 250, 5, 192, 183, 5}, {128, 9, 250, 5, 191, 182, 31}, {127, 9, 3, 15, 192, 192, 18}, {63, 9, 3, 15, 192, 183, 18},
		{128, 250, 3, 7, 190, 196, 10}, {128, 250, 3, 7, 195, 201, 7}, // the column that is asked counts, not the ground's
		{192, 9, 3, 15, 192, 192, 15}, {192, 9, 3, 15, 191, 191, 18}, {192, 9, 3, 16, 192, 183, 16}, {255, 9, 3, 15, 255, 255, 15},
		{128, 0, 3, 7, 256, 0, 10}, {128, 0, 3, 7, 256 + 192, 192, 7}, {128, 0, 3, 7, -1, 255, 7}, {128, 0, 3, 7, -64, 192, 7}, {128, 0, 3, 7, -65, 191, 10}, {128, 0, 3, 7, -256, 0, 10}, {0, 1, 0, 0, 256, 255, 0}, {64, 1, 0, 0, 511, 255, 0},
		{0, 0, 0, 0, math.MinInt, 0, 0}, {0, 2, 0, 0, math.MinInt, 254, 0}, {0, 2, 0, 0, math.MaxInt, 253, 0}, {128, 0, 3, 7, math.MaxInt, 255, 7}, {128, 0, 3, 7, math.MaxInt - 64, 191, 10},
		{0, 5, 5, -1, 20, 0, 0}, {0, 5, 5, 192, 20, 0, 0}, {192, 5, 5, 223, 20, 0, 0}, {192, 5, 5, 224, 200, 0, 0}, {255, 5, 5, 256, 200, 0, 0},
	} {
		regs := registers{0: c.zero, 8: c.eight, 9: c.nine}
		if column, down := back.Source(regs, c.line, c.x); column != c.column || down != c.down {
			t.Errorf("R0 %d, R8 %d, R9 %d, line %d, x %d: %d and %d instead of %d and %d", c.zero, c.eight, c.nine, c.line, c.x, column, down, c.column, c.down)
		}
	}
}

func TestSourceOfEachColumn(t *testing.T) {
	for _, zero := range []byte{0, 63, 64, 128, 191, 192, 255} {
		for _, line := range []int{0, 15, 16, 191} {
			for eight := range wide {
				for x := range wide {
					holdSource(t, registers{0: zero, 8: byte(eight), 9: 5}, line, x)
				}
			}
		}
	}
}

func TestSourceOfEachLine(t *testing.T) {
	for _, zero := range []byte{0, 64, 127, 128, 192} {
		for _, x := range []int{0, 191, 192, 255} {
			for nine := range 256 {
				for line := range shown {
					holdSource(t, registers{0: zero, 8: 5, 9: byte(nine)}, line, x)
				}
			}
		}
	}
}

func TestSourceOfEachZero(t *testing.T) {
	for zero := range 256 {
		for line := range shown {
			for x := 0; x < wide; x += 3 {
				holdSource(t, registers{0: byte(zero), 8: 77, 9: 99}, line, x)
			}
		}
	}
}

func TestSourceOfColumnsBeyond(t *testing.T) {
	for _, zero := range []byte{0, 64, 128, 192} {
		for _, line := range []int{0, 15, 16, 100, 191} {
			regs := registers{0: zero, 8: 77, 9: 99}
			for x := -1100; x < 1100; x++ {
				holdSource(t, regs, line, x)
			}
			for _, x := range far {
				for beside := -3; beside <= 3; beside++ {
					holdSource(t, regs, line, x+beside) // beyond the greatest int comes the least one
				}
			}
		}
	}
}

func TestSourceOfNoLine(t *testing.T) {
	lines := slices.Clone(far)
	for n := range 70000 { // more than a byte, and two, hold
		lines = append(lines, -1-n, shown+n)
	}
	for _, line := range lines {
		for _, x := range []int{0, 1, 191, 192, 255, -1, 300} {
			for _, zero := range []byte{0, 64, 128, 255} {
				if column, down := back.Source(registers{0: zero, 8: 9, 9: 3}, line, x); column != 0 || down != 0 {
					t.Fatalf("R0 %d, line %d, x %d: %d and %d", zero, line, x, column, down)
				}
			}
		}
	}
}

func TestSourceOfAnything(t *testing.T) {
	dice := rand.New(rand.NewSource(171))
	for range 300000 {
		holdSource(t, anyRegisters(dice), dice.Intn(200)-4, int(dice.Uint64()))
	}
}

// P17.2 Line

// picture is a memory whose tile 1 has in its rows the colors 1 to 8 from the left on, but nothing in the row 0, and 9 at the left of the row 7; the tile 511 is all 15. The table at 14336 has an entry at a line and a column.
func picture(line, column, number int, how byte) []byte {
	v := make([]byte, vramSize)
	for row := 1; row < 8; row++ {
		copy(v[32+4*row:], []byte{0xAA, 0x66, 0x1E, 0x01})
	}
	v[32+4*7+3] |= 0x80
	for n := range 32 {
		v[32*511+n] = 255
	}
	entry := number + 512*int(how)
	v[14336+64*line+2*column], v[14336+64*line+2*column+1] = byte(entry%256), byte(entry/256)
	return v
}

func TestLineByHand(t *testing.T) {
	for _, c := range []struct {
		say   string
		v     []byte
		regs  registers
		line  int
		from  int
		color []byte
		front int // how many of them, from the first one on that isn't 0
	}{
		{"as it is", picture(2, 3, 1, 0), registers{2: 14}, 17, 23, []byte{0, 1, 2, 3, 4, 5, 6, 7, 8, 0}, 0},
		{"row 0", picture(2, 3, 1, 0), registers{2: 14}, 16, 23, []byte{0, 0, 0, 0, 0, 0, 0, 0, 0, 0}, 0},
		{"row 7", picture(2, 3, 1, 0), registers{2: 14}, 23, 23, []byte{0, 9, 2, 3, 4, 5, 6, 7, 8, 0}, 0},
		{"the line ahead", picture(2, 3, 1, 0), registers{2: 14}, 15, 23, []byte{0, 0, 0, 0, 0, 0, 0, 0, 0, 0}, 0},
		{"the line behind", picture(2, 3, 1, 0), registers{2: 14}, 24, 23, []byte{0, 0, 0, 0, 0, 0, 0, 0, 0, 0}, 0},
		{"turned about", picture(2, 3, 1, 1), registers{2: 14}, 23, 23, []byte{0, 8, 7, 6, 5, 4, 3, 2, 9, 0}, 0},
		{"rows turned about", picture(2, 3, 1, 2), registers{2: 14}, 16, 23, []byte{0, 9, 2, 3, 4, 5, 6, 7, 8, 0}, 0},
		{"rows turned about", picture(2, 3, 1, 2), registers{2: 14}, 23, 23, []byte{0, 0, 0, 0, 0, 0, 0, 0, 0, 0}, 0},
		{"the second sixteen", picture(2, 3, 1, 4), registers{2: 14}, 17, 23, []byte{0, 17, 18, 19, 20, 21, 22, 23, 24, 0}, 0},
		{"the second sixteen", picture(2, 3, 1, 4), registers{2: 14}, 16, 23, []byte{0, 16, 16, 16, 16, 16, 16, 16, 16, 0}, 0},
		{"in front", picture(2, 3, 1, 8), registers{2: 14}, 17, 23, []byte{0, 1, 2, 3, 4, 5, 6, 7, 8, 0}, 8},
		{"in front, but nothing", picture(2, 3, 1, 8), registers{2: 14}, 16, 23, []byte{0, 0, 0, 0, 0, 0, 0, 0, 0, 0}, 0},
		{"in front, but nothing", picture(2, 3, 1, 12), registers{2: 14}, 16, 23, []byte{0, 16, 16, 16, 16, 16, 16, 16, 16, 0}, 0},
		{"all of it", picture(2, 3, 1, 15), registers{2: 14}, 16, 23, []byte{0, 24, 23, 22, 21, 20, 19, 18, 25, 0}, 8},
		{"what tells no more", picture(2, 3, 1, 0x70), registers{2: 14}, 17, 23, []byte{0, 1, 2, 3, 4, 5, 6, 7, 8, 0}, 0},
		{"the last tile", picture(2, 3, 511, 0), registers{2: 14}, 16, 23, []byte{0, 15, 15, 15, 15, 15, 15, 15, 15, 0}, 0},
		{"another table", picture(2, 3, 1, 0), registers{2: 12}, 17, 23, []byte{0, 0, 0, 0, 0, 0, 0, 0, 0, 0}, 0},
		{"the table as all bits tell", picture(2, 3, 1, 0), registers{2: 255}, 17, 23, []byte{0, 1, 2, 3, 4, 5, 6, 7, 8, 0}, 0},
		{"moved to the right", picture(2, 3, 1, 8), registers{2: 14, 8: 3}, 17, 26, []byte{0, 1, 2, 3, 4, 5, 6, 7, 8, 0}, 8},
		{"moved over the edge", picture(2, 3, 1, 8), registers{2: 14, 8: 228}, 17, 251, []byte{0, 1, 2, 3, 4}, 4},
		{"moved over the edge", picture(2, 3, 1, 8), registers{2: 14, 8: 228}, 17, 0, []byte{5, 6, 7, 8, 0, 0}, 4},
		{"moved up", picture(2, 3, 1, 0), registers{2: 14, 9: 6}, 17, 23, []byte{0, 9, 2, 3, 4, 5, 6, 7, 8, 0}, 0},
		{"moved around", picture(27, 31, 1, 0), registers{2: 14, 9: 255}, 191, 247, []byte{0, 1, 2, 3, 4, 5, 6, 7, 8}, 0},
		{"moved by 224", picture(2, 3, 1, 0), registers{2: 14, 9: 224}, 17, 23, []byte{0, 1, 2, 3, 4, 5, 6, 7, 8, 0}, 0},
		{"the top stays", picture(1, 3, 1, 0), registers{0: 64, 2: 14, 8: 3}, 15, 23, []byte{0, 9, 2, 3, 4, 5, 6, 7, 8, 0}, 0},
		{"not below the top", picture(2, 3, 1, 0), registers{0: 64, 2: 14, 8: 3}, 17, 26, []byte{0, 1, 2, 3, 4, 5, 6, 7, 8, 0}, 0},
		{"the right stays", picture(2, 24, 1, 0), registers{0: 128, 2: 14, 9: 6}, 17, 191, []byte{0, 1, 2, 3, 4, 5, 6, 7, 8, 0}, 0},
		{"what is ahead of the right doesn't", picture(2, 23, 1, 0), registers{0: 128, 2: 14, 9: 6}, 17, 183, []byte{0, 9, 2, 3, 4, 5, 6, 7, 8, 0}, 0},
		{"the right begins within a tile", picture(2, 23, 1, 0), registers{0: 128, 2: 14, 8: 5, 9: 6}, 17, 188, []byte{0, 9, 2, 3, 4, 5, 6, 7, 8, 0}, 0},
		{"the right begins within a tile", picture(2, 23, 1, 2), registers{0: 128, 2: 14, 8: 4, 9: 7}, 16, 187, []byte{0, 0, 0, 0, 0, 5, 6, 7, 8, 0}, 0},
	} {
		g := back.Line(c.v, c.regs, c.line)
		for i, want := range c.color {
			x := c.from + i
			if g.Color[x] != want {
				t.Errorf("%s, line %d, x %d: %d instead of %d", c.say, c.line, x, g.Color[x], want)
			}
			front := c.front > 0 && want != 0
			if front {
				c.front--
			}
			if g.Front[x] != front {
				t.Errorf("%s, line %d, x %d: in front %t instead of %t", c.say, c.line, x, g.Front[x], front)
			}
		}
	}
}

func TestLineOfEachLine(t *testing.T) {
	v := memory(vramSize)
	for line := range shown {
		for _, zero := range []byte{0, 64, 128, 192} {
			holdLine(t, v, registers{0: zero, 2: 14}, line)
			holdLine(t, v, registers{0: zero, 2: 6, 8: 77, 9: 99}, line)
		}
	}
}

func TestLineOfEachRegister(t *testing.T) {
	v := memory(vramSize)
	for _, line := range []int{0, 15, 16, 100, 191} {
		for n := range 256 {
			holdLine(t, v, registers{0: byte(n), 2: 14, 8: 77, 9: 99}, line)
			holdLine(t, v, registers{0: 128, 2: byte(n), 8: 77, 9: 99}, line)
			holdLine(t, v, registers{0: 192, 2: 14, 8: byte(n), 9: 99}, line)
			holdLine(t, v, registers{0: 192, 2: 14, 8: 77, 9: byte(n)}, line)
			holdLine(t, v, registers{2: 14, 8: byte(n), 9: byte(255 - n)}, line)
		}
	}
}

func TestLineOfEachEntry(t *testing.T) {
	v := memory(vramSize)
	for first := 0; first < 65536; first += 32 { // a line of the table has 32 entries
		for column := range 32 {
			entry, place := first+column, 14336+64*3+2*column
			v[place], v[place+1] = byte(entry%256), byte(entry/256)
		}
		for line := 24; line < 32; line++ {
			holdLine(t, v, registers{2: 14}, line)
		}
	}
}

func TestLineOfMemoriesOfAnySize(t *testing.T) {
	for _, size := range []int{0, 1, 2, 3, 31, 32, 33, 64, 100, 1000, 2047, 2048, 2049, 8192, 12288, 14335, 14336, 14337, 14400, 16127, 16128, 16382, 16383, 16384, 16385, 20000, 32768} {
		v := memory(size)
		for line := 0; line < shown; line += 5 {
			for two := byte(0); two < 16; two += 2 {
				holdLine(t, v, registers{2: two, 9: 40}, line)
			}
		}
	}
	for _, v := range [][]byte{nil, {}} {
		if g := back.Line(v, registers{0: 192, 2: 14, 8: 9, 9: 3}, 100); g != (back.Ground{}) {
			t.Error("no memory: something is seen")
		}
	}
}

func TestLineOfNoLine(t *testing.T) {
	v := bytes.Repeat([]byte{255}, vramSize)
	lines := slices.Clone(far)
	for n := range 1000 {
		lines = append(lines, -1-n, shown+n)
	}
	for _, line := range lines {
		for _, zero := range []byte{0, 192} {
			if g := back.Line(v, registers{0: zero, 2: 14, 8: 9, 9: 3}, line); g != (back.Ground{}) {
				t.Fatalf("something is seen on the line %d", line)
			}
		}
	}
	for _, line := range []int{0, 191} {
		if g := back.Line(v, registers{}, line); g.Color[0] != 31 || g.Color[255] != 31 || !g.Front[0] || !g.Front[255] {
			t.Errorf("nothing is seen on the line %d", line)
		}
	}
}

func TestLineOfAnything(t *testing.T) {
	dice := rand.New(rand.NewSource(172))
	v := make([]byte, vramSize)
	for n := range 2000 {
		if n%50 == 0 {
			dice.Read(v)
		}
		holdLine(t, v, anyRegisters(dice), dice.Intn(shown))
	}
}

// P1, P2, and the rules of memory

func TestOtherRegistersTellNothing(t *testing.T) {
	v := memory(vramSize)
	dice := rand.New(rand.NewSource(173))
	for range 50 {
		regs := anyRegisters(dice)
		line, x := dice.Intn(shown), dice.Intn(wide)
		g := back.Line(v, regs, line)
		column, down := back.Source(regs, line, x)
		for _, other := range others {
			changed := regs
			changed[other] ^= byte(1 + dice.Intn(255))
			if back.Line(v, changed, line) != g {
				t.Fatalf("registers %v: the register %d tells of the line %d", regs, other, line)
			}
			if c, d := back.Source(changed, line, x); c != column || d != down {
				t.Fatalf("registers %v: the register %d tells of the source at %d, %d", regs, other, line, x)
			}
		}
	}
}

func TestMemoryIsNotChanged(t *testing.T) {
	all := memory(vramSize)
	kept := slices.Clone(all)
	v := all[:15000]
	for line := -3; line < 300; line++ {
		back.Line(v, registers{0: byte(line), 2: byte(line), 8: byte(line), 9: byte(line)}, line)
	}
	if !bytes.Equal(all, kept) {
		t.Error("the memory, or its spare room, was changed")
	}
}

func TestSpareRoomIsNotSeen(t *testing.T) {
	v := bytes.Repeat([]byte{255}, vramSize)
	for n := range 8192 {
		v[n] = 0
	}
	if g := back.Line(v[:8192], registers{2: 14}, 50); g != (back.Ground{}) {
		t.Error("Line sees what is in the spare room")
	}
	if g := back.Line(v, registers{2: 14}, 50); g.Color[0] != 31 || !g.Front[0] {
		t.Error("Line doesn't see what is in the memory")
	}
}

func TestAnswersHangOnNothingElse(t *testing.T) {
	v := memory(vramSize)
	empty := make([]byte, vramSize)
	regs := registers{0: 192, 2: 14, 8: 77, 9: 99}
	var first [shown]back.Ground
	for line := range first {
		first[line] = back.Line(v, regs, line)
	}
	for line := shown - 1; line >= 0; line-- {
		if back.Line(empty, regs, line) != (back.Ground{}) {
			t.Fatalf("the line %d is told of another memory", line)
		}
		back.Line(v, registers{2: 2, 8: 5}, line)
		if back.Line(slices.Clone(v), regs, line) != first[line] {
			t.Fatalf("the line %d is told another way later", line)
		}
	}
	kept := first[100]
	clear(v)
	if back.Line(v, regs, 100) != (back.Ground{}) || first[100] != kept {
		t.Error("the line 100 is told as the memory was, not as it is")
	}
}
