package sprite_test

import (
	"bytes"
	"math"
	"math/rand"
	"slices"
	"testing"

	"joystick/api"
	"joystick/sprite"
)

// The chapter's numbers, written out, so that a wrong one in the package isn't followed.
const (
	vramSize = 16384
	shown    = 192
	wide     = 256
	table    = 16128 // where it is, when all of R5's bits are 1
)

// registers are those that a line of sprites is handed.
type registers = [11]byte

// others are the registers that tell nothing of sprites.
var others = []int{2, 3, 4, 7, 8, 9, 10}

// one is a sprite: its Y, its X and its tile.
type one struct{ y, x, tile byte }

// far are numbers far from any line.
var far = []int{
	math.MinInt, math.MinInt + 1, math.MinInt + 5, math.MinInt + 191, math.MinInt + 256, math.MinInt / 2, math.MinInt/2 + 7, math.MinInt / 3,
	math.MinInt32, math.MinInt32 - 1, math.MinInt32 + 5, -1 << 40, -1<<40 + 3, -1<<32 + 5, -1 << 32, -1<<32 + 191, -1 << 16, -65535, -65536 + 20, -1024, -513, -512,
	math.MaxInt, math.MaxInt - 1, math.MaxInt - 15, math.MaxInt - 63, math.MaxInt - 255, math.MaxInt / 2, math.MaxInt/2 + 7, math.MaxInt / 3,
	math.MaxInt32, math.MaxInt32 + 1, 1 << 40, 1<<40 + 3, 1<<32 + 5, 1 << 32, 1<<32 + 191, 1 << 16, 65535, 65536 + 20, 1024, 513, 512,
}

// memory is bytes of which any two places differ, nearly always.
func memory(size int) []byte {
	v := make([]byte, size)
	rand.New(rand.NewSource(18)).Read(v)
	return v
}

// anyRegisters are registers of any bytes.
func anyRegisters(dice *rand.Rand) registers {
	var regs registers
	for n := range regs {
		regs[n] = byte(dice.Intn(256))
	}
	return regs
}

// set writes sprites into a table, and that there are no more.
func set(v []byte, at int, l ...one) {
	for n, s := range l {
		v[at+n], v[at+128+2*n], v[at+129+2*n] = s.y, s.x, s.tile
	}
	if len(l) < 64 {
		v[at+len(l)] = 208
	}
}

// picture is a memory of some sprites. The tile 2 has in each row the colors 1 to 8, the tile 3 has 9 to 15 behind nothing, the tile 4 is all nothing, and the tile 5 has in each row its number and one more in the first dot. Of 256 more each has 15 less that color.
func picture(l ...one) []byte {
	v := make([]byte, vramSize)
	draw := func(number, row int, colors [8]byte) {
		for i, color := range colors {
			for n, counts := range []byte{1, 2, 4, 8} {
				if color/counts%2 == 1 {
					v[32*number+4*row+n] += []byte{128, 64, 32, 16, 8, 4, 2, 1}[i]
				}
			}
		}
	}
	for row := range 8 {
		for number, colors := range [][8]byte{2: {1, 2, 3, 4, 5, 6, 7, 8}, 3: {0, 9, 10, 11, 12, 13, 14, 15}, 4: {}, 5: {byte(row + 1)}} {
			draw(number, row, colors)
			for i := range colors {
				colors[i] = 15 - colors[i]
			}
			draw(256+number, row, colors)
		}
	}
	set(v, table, l...)
	return v
}

// bit tells whether a byte's bit is 1, by what the byte counts.
func bit(v byte, n int) bool { return int(v)/[8]int{1, 2, 4, 8, 16, 32, 64, 128}[n]%2 == 1 }

// byteAt is a byte of memory; 0, if there is none.
func byteAt(v []byte, a int) byte {
	if a < len(v) {
		return v[a]
	}
	return 0
}

// tableOf is where the chapter says that the TABLE is.
func tableOf(regs registers) int { return int(regs[5]) / 2 % 64 * 256 }

// heightOf is what the chapter says of Height.
func heightOf(regs registers) int { return []int{8, 16, 16, 32}[regs[1]%4] }

// firstOf is the first line of a Y.
func firstOf(y byte) int {
	if y >= 240 {
		return int(y) - 255
	}
	return int(y) + 1
}

// onOf is what the chapter says of On: all that are on the line, of which eight are told.
func onOf(v []byte, regs registers, line int) ([]int, bool) {
	var all []int
	for n := 0; n <= 63 && line >= 0 && line <= 191; n++ {
		y := byteAt(v, tableOf(regs)+n)
		if y == 208 {
			break
		}
		if first := firstOf(y); first <= line && line <= first+heightOf(regs)-1 {
			all = append(all, n)
		}
	}
	if len(all) > 8 {
		return all[:8], true
	}
	return all, false
}

// dotOf is a tile's dot, of whose four bytes each has a bit.
func dotOf(v []byte, number, row, i int) byte {
	var dot byte
	for n, counts := range []byte{1, 2, 4, 8} {
		if bit(byteAt(v, 32*number+4*row+n), 7-i) {
			dot += counts
		}
	}
	return dot
}

// seenOf is a sprite's dot on a line that it is on, at a column.
func seenOf(v []byte, regs registers, n, line, x int) byte {
	at, times := tableOf(regs), 1
	if bit(regs[1], 0) {
		times = 2
	}
	left, number := int(byteAt(v, at+128+2*n)), int(byteAt(v, at+129+2*n))
	if bit(regs[0], 3) {
		left -= 8
	}
	if bit(regs[6], 2) {
		number += 256
	}
	if x < left || x >= left+8*times {
		return 0
	}
	row := (line - firstOf(byteAt(v, at+n))) / times
	if bit(regs[1], 1) {
		number = number/2*2 + row/8
	}
	return dotOf(v, number, row%8, (x-left)/times)
}

// rowOf is what the chapter says of Line, column by column.
func rowOf(v []byte, regs registers, line int) sprite.Row {
	var r sprite.Row
	on, more := onOf(v, regs, line)
	r.Overflow = more
	for x := range wide {
		dots := 0
		for i := len(on) - 1; i >= 0; i-- { // the first one comes last, and is seen
			if dot := seenOf(v, regs, on[i], line, x); dot > 0 {
				r.Color[x] = 16 + dot
				dots++
			}
		}
		r.Collision = r.Collision || dots > 1
	}
	return r
}

// holdOn holds On against the chapter's words.
func holdOn(t *testing.T, v []byte, regs registers, line int) {
	t.Helper()
	on, more := sprite.On(v, regs, line)
	wantOn, wantMore := onOf(v, regs, line)
	if !slices.Equal(on, wantOn) || more != wantMore {
		t.Fatalf("of %d bytes, registers %v, line %d: %v and %t instead of %v and %t", len(v), regs, line, on, more, wantOn, wantMore)
	}
}

// holdLine holds Line against the chapter's words.
func holdLine(t *testing.T, v []byte, regs registers, line int) {
	t.Helper()
	got, want := sprite.Line(v, regs, line), rowOf(v, regs, line)
	for x := range wide {
		if got.Color[x] != want.Color[x] {
			t.Fatalf("of %d bytes, registers %v, line %d, x %d: %d instead of %d", len(v), regs, line, x, got.Color[x], want.Color[x])
		}
	}
	if got.Overflow != want.Overflow || got.Collision != want.Collision {
		t.Fatalf("of %d bytes, registers %v, line %d: %t and %t instead of %t and %t", len(v), regs, line, got.Overflow, got.Collision, want.Overflow, want.Collision)
	}
}

// The chapter's numbers

func TestNumbersOfThePicture(t *testing.T) {
	if api.Shown != shown || api.Wide != wide || api.VdpRegs != len(registers{}) || api.VramSize != vramSize {
		t.Error("a picture is of 192 lines of 256 dots, made of 16384 bytes, as 11 registers say")
	}
}

func TestExample(t *testing.T) {
	v := picture(one{255, 100, 2})
	for line := range shown {
		on, more := sprite.On(v, registers{5: 255}, line)
		if want := line < 8; (len(on) == 1) != want || more {
			t.Errorf("a sprite whose Y is 255: on the line %d there are %v", line, on)
		}
		if seen := sprite.Line(v, registers{5: 255}, line).Color[100] == 17; seen != (line < 8) {
			t.Errorf("a sprite whose Y is 255: seen %t on the line %d", seen, line)
		}
	}
}

// P18.1 Height

func TestHeight(t *testing.T) {
	for n := range 256 {
		want := 8
		if bit(byte(n), 1) {
			want = 16
		}
		if bit(byte(n), 0) {
			want += want
		}
		if got := sprite.Height(registers{1: byte(n)}); got != want {
			t.Errorf("R1 %d: %d instead of %d", n, got, want)
		}
	}
	for n, want := range []int{8, 16, 16, 32} {
		if got := sprite.Height(registers{1: byte(n)}); got != want {
			t.Errorf("R1 %d: %d instead of %d", n, got, want)
		}
	}
}

// P18.2 On

func TestOnByHand(t *testing.T) {
	for _, c := range []struct {
		y, one      byte
		first, last int // those of the lines that are shown
	}{
		{0, 0, 1, 8}, {1, 0, 2, 9}, {9, 0, 10, 17}, {100, 0, 101, 108}, {182, 0, 183, 190}, {183, 0, 184, 191}, {184, 0, 185, 191}, {190, 0, 191, 191}, {191, 0, 0, -1}, {207, 0, 0, -1}, {208, 0, 0, -1}, {209, 0, 0, -1}, {239, 0, 0, -1},
		{240, 0, 0, -1}, {247, 0, 0, -1}, {248, 0, 0, 0}, {249, 0, 0, 1}, {250, 0, 0, 2}, {254, 0, 0, 6}, {255, 0, 0, 7},
		{9, 2, 10, 25}, {9, 1, 10, 25}, {9, 3, 10, 41}, {9, 252, 10, 17}, {9, 255, 10, 41}, {9, 254, 10, 25}, {9, 253, 10, 25},
		{190, 3, 191, 191}, {191, 3, 0, -1}, {208, 3, 0, -1}, {239, 3, 0, -1}, {240, 3, 0, 16}, {240, 2, 0, 0}, {240, 1, 0, 0}, {241, 2, 0, 1}, {255, 2, 0, 15}, {255, 3, 0, 31}, {150, 3, 151, 182}, {160, 3, 161, 191},
	} {
		v := picture(one{c.y, 0, 2})
		for line := range shown {
			on, more := sprite.On(v, registers{1: c.one, 5: 255}, line)
			var want []int
			if c.first <= line && line <= c.last {
				want = []int{0}
			}
			if !slices.Equal(on, want) || more {
				t.Errorf("Y %d, R1 %d, line %d: %v and %t", c.y, c.one, line, on, more)
			}
		}
	}
}

func TestOnOfMany(t *testing.T) {
	at := func(y ...byte) []byte {
		var l []one
		for _, y := range y {
			l = append(l, one{y: y})
		}
		return picture(l...)
	}
	ends := func(y byte, from int) []byte { // all 64, of which those from a number on are of this Y
		v := at(bytes.Repeat([]byte{100}, 64)...)
		for n := from; n < 64; n++ {
			v[table+n] = y
		}
		return v
	}
	for _, c := range []struct {
		say  string
		v    []byte
		on   []int
		more bool
	}{
		{"none", at(), nil, false},
		{"one", at(20), []int{0}, false},
		{"some aren't", at(20, 100, 19, 13, 12, 21, 20), []int{0, 2, 3, 6}, false},
		{"eight", at(20, 20, 20, 20, 20, 20, 20, 20), []int{0, 1, 2, 3, 4, 5, 6, 7}, false},
		{"nine", at(20, 20, 20, 20, 20, 20, 20, 20, 20), []int{0, 1, 2, 3, 4, 5, 6, 7}, true},
		{"ten", at(20, 20, 20, 20, 20, 20, 20, 20, 20, 20), []int{0, 1, 2, 3, 4, 5, 6, 7}, true},
		{"eight, and others", at(20, 20, 20, 20, 20, 20, 20, 20, 21, 100, 0), []int{0, 1, 2, 3, 4, 5, 6, 7}, false},
		{"others, and nine", at(21, 20, 0, 20, 20, 20, 20, 20, 20, 20, 50, 20), []int{1, 3, 4, 5, 6, 7, 8, 9}, true},
		{"no more ahead of the ninth", at(20, 20, 20, 20, 20, 20, 20, 20, 208, 20), []int{0, 1, 2, 3, 4, 5, 6, 7}, false},
		{"no more behind the ninth", at(20, 20, 20, 20, 20, 20, 20, 20, 20, 208), []int{0, 1, 2, 3, 4, 5, 6, 7}, true},
		{"no more from the first one on", at(208, 20, 20), nil, false},
		{"no more in between", at(20, 20, 208, 20), []int{0, 1}, false},
		{"207 and 209 don't end it", at(207, 20, 209, 20), []int{1, 3}, false},
		{"the last eight", ends(20, 56), []int{56, 57, 58, 59, 60, 61, 62, 63}, false},
		{"the last nine", ends(20, 55), []int{55, 56, 57, 58, 59, 60, 61, 62}, true},
		{"the last one", ends(20, 63), []int{63}, false},
		{"all", ends(20, 0), []int{0, 1, 2, 3, 4, 5, 6, 7}, true},
		{"none of all", ends(21, 3), nil, false},
	} {
		on, more := sprite.On(c.v, registers{5: 255}, 21)
		if !slices.Equal(on, c.on) || more != c.more {
			t.Errorf("%s: %v and %t instead of %v and %t", c.say, on, more, c.on, c.more)
		}
	}
}

func TestOnEndsBehindTheLast(t *testing.T) {
	v := picture()
	for n := range 128 { // what stands behind the 64 isn't asked
		v[table+n] = 100
		if n >= 64 {
			v[table+n] = 20
		}
	}
	if on, more := sprite.On(v, registers{5: 255}, 21); len(on) > 0 || more {
		t.Errorf("there are %v and %t", on, more)
	}
}

func TestOnOfEachTable(t *testing.T) {
	for five := range 256 {
		v := bytes.Repeat([]byte{208}, vramSize)
		set(v, int(five)/2%64*256, one{9, 8, 7}, one{9, 6, 5})
		for other := range 64 {
			on, _ := sprite.On(v, registers{5: byte(2 * other)}, 10)
			if want := other == five/2%64; (len(on) == 2) != want || (len(on) == 0) == want {
				t.Fatalf("a table for R5 %d: with %d there are %v", five, 2*other, on)
			}
		}
		holdOn(t, v, registers{5: byte(five)}, 10)
	}
}

func TestOnOfEachLine(t *testing.T) {
	for y := range 256 {
		for size := range 4 {
			v := picture(one{y: byte(y)}, one{y: 20}, one{y: byte(y)})
			for line := range shown {
				holdOn(t, v, registers{1: byte(size), 5: 255}, line)
			}
		}
	}
}

func TestOnOfNoLine(t *testing.T) {
	lines := slices.Clone(far)
	for n := range 2000 {
		lines = append(lines, -1-n, shown+n)
	}
	for _, y := range []byte{0, 180, 190, 191, 200, 239, 240, 241, 247, 255} {
		v := picture(slices.Repeat([]one{{y: y, tile: 2}}, 9)...)
		for _, line := range lines {
			for size := range 4 {
				regs := registers{1: byte(size), 5: 255}
				if on, more := sprite.On(v, regs, line); len(on) > 0 || more {
					t.Fatalf("Y %d, R1 %d, line %d: %v and %t", y, size, line, on, more)
				}
				if sprite.Line(v, regs, line) != (sprite.Row{}) {
					t.Fatalf("Y %d, R1 %d, line %d: something is seen", y, size, line)
				}
			}
		}
	}
}

func TestOnOfAnything(t *testing.T) {
	dice := rand.New(rand.NewSource(182))
	v := make([]byte, vramSize)
	for n := range 100000 {
		if n%50 == 0 {
			dice.Read(v)
		}
		holdOn(t, v, anyRegisters(dice), dice.Intn(200)-4)
	}
}

// P18.3 Line

// holdDots holds some of a line's colors against those that are wanted, and all others against nothing.
func holdDots(t *testing.T, say string, r sprite.Row, from int, dots []byte, collision, overflow bool) {
	t.Helper()
	for x := range wide {
		var want byte
		if x >= from && x < from+len(dots) {
			want = dots[x-from]
		}
		if r.Color[x] != want {
			t.Errorf("%s, x %d: %d instead of %d", say, x, r.Color[x], want)
		}
	}
	if r.Collision != collision || r.Overflow != overflow {
		t.Errorf("%s: %t and %t instead of %t and %t", say, r.Collision, r.Overflow, collision, overflow)
	}
}

func TestLineOfOneByHand(t *testing.T) {
	two := []byte{17, 18, 19, 20, 21, 22, 23, 24}
	twice := []byte{17, 17, 18, 18, 19, 19, 20, 20, 21, 21, 22, 22, 23, 23, 24, 24}
	three := []byte{25, 26, 27, 28, 29, 30, 31}
	threeTwice := []byte{25, 25, 26, 26, 27, 27, 28, 28, 29, 29, 30, 30, 31, 31}
	higherTwo := []byte{30, 29, 28, 27, 26, 25, 24, 23}
	for _, c := range []struct {
		say  string
		s    one
		regs registers
		line int
		from int
		dots []byte
	}{
		{"its first line", one{9, 100, 2}, registers{}, 10, 100, two},
		{"its last line", one{9, 100, 2}, registers{}, 17, 100, two},
		{"ahead of it", one{9, 100, 2}, registers{}, 9, 0, nil},
		{"behind it", one{9, 100, 2}, registers{}, 18, 0, nil},
		{"a dot that is nothing", one{9, 100, 3}, registers{}, 10, 101, three},
		{"a tile of nothing", one{9, 100, 4}, registers{}, 10, 0, nil},
		{"its row 0", one{9, 100, 5}, registers{}, 10, 100, []byte{17}},
		{"its row 1", one{9, 100, 5}, registers{}, 11, 100, []byte{18}},
		{"its row 7", one{9, 100, 5}, registers{}, 17, 100, []byte{24}},
		{"its row 5, of a Y of 250", one{250, 100, 5}, registers{}, 0, 100, []byte{22}},
		{"its row 7, of a Y of 248", one{248, 100, 5}, registers{}, 0, 100, []byte{24}},
		{"its row 0, of a Y of 190", one{190, 100, 5}, registers{}, 191, 100, []byte{17}},
		{"at the left", one{9, 0, 2}, registers{}, 10, 0, two},
		{"at the right", one{9, 248, 2}, registers{}, 10, 248, two},
		{"a dot over the right edge", one{9, 249, 2}, registers{}, 10, 249, two[:7]},
		{"all but a dot over the right edge", one{9, 255, 2}, registers{}, 10, 255, two[:1]},
		{"less 8", one{9, 100, 2}, registers{0: 8}, 10, 92, two},
		{"less 8, at the left", one{9, 8, 2}, registers{0: 8}, 10, 0, two},
		{"less 8, a dot over the left edge", one{9, 7, 2}, registers{0: 8}, 10, 0, two[1:]},
		{"less 8, all but a dot over the left edge", one{9, 1, 2}, registers{0: 8}, 10, 0, two[7:]},
		{"less 8, over the left edge", one{9, 0, 2}, registers{0: 8}, 10, 0, nil},
		{"less 8, at the right", one{9, 255, 2}, registers{0: 8}, 10, 247, two},
		{"not less 8", one{9, 100, 2}, registers{0: 247}, 10, 100, two},
		{"less 8, of all bits", one{9, 100, 2}, registers{0: 255}, 10, 92, two},
		{"256 more", one{9, 100, 2}, registers{6: 4}, 10, 100, higherTwo},
		{"256 more, of all bits", one{9, 100, 2}, registers{6: 255}, 10, 100, higherTwo},
		{"not 256 more", one{9, 100, 2}, registers{6: 251}, 10, 100, two},
		{"of 16, its row 7", one{9, 100, 2}, registers{1: 2}, 17, 100, two},
		{"of 16, its row 8", one{9, 100, 2}, registers{1: 2}, 18, 101, three},
		{"of 16, its row 15", one{9, 100, 2}, registers{1: 2}, 25, 101, three},
		{"of 16, behind it", one{9, 100, 2}, registers{1: 2}, 26, 0, nil},
		{"of 16, the tile's lowest bit", one{9, 100, 3}, registers{1: 2}, 17, 100, two},
		{"of 16, the tile's lowest bit, its row 8", one{9, 100, 3}, registers{1: 2}, 18, 101, three},
		{"of 16, its row 8 is the tile's behind it row 0", one{9, 100, 4}, registers{1: 2}, 18, 100, []byte{17}},
		{"of 16, its row 15 is the tile's behind it row 7", one{9, 100, 5}, registers{1: 2}, 25, 100, []byte{24}},
		{"of 16, 256 more", one{9, 100, 3}, registers{1: 2, 6: 4}, 10, 100, higherTwo},
		{"doubled, its first line", one{9, 100, 2}, registers{1: 1}, 10, 100, twice},
		{"doubled, its last line", one{9, 100, 2}, registers{1: 1}, 25, 100, twice},
		{"doubled, behind it", one{9, 100, 2}, registers{1: 1}, 26, 0, nil},
		{"doubled, the tile's lowest bit stays", one{9, 100, 3}, registers{1: 1}, 10, 102, threeTwice},
		{"doubled, its row 0", one{9, 100, 5}, registers{1: 1}, 10, 100, []byte{17, 17}},
		{"doubled, its row 0 again", one{9, 100, 5}, registers{1: 1}, 11, 100, []byte{17, 17}},
		{"doubled, its row 1", one{9, 100, 5}, registers{1: 1}, 12, 100, []byte{18, 18}},
		{"doubled, its row 7", one{9, 100, 5}, registers{1: 1}, 25, 100, []byte{24, 24}},
		{"doubled, its row 3, of a Y of 248", one{248, 100, 5}, registers{1: 1}, 0, 100, []byte{20, 20}},
		{"doubled, at the right", one{9, 240, 2}, registers{1: 1}, 10, 240, twice},
		{"doubled, half a dot over the right edge", one{9, 241, 2}, registers{1: 1}, 10, 241, twice[:15]},
		{"doubled, a dot over the right edge", one{9, 242, 2}, registers{1: 1}, 10, 242, twice[:14]},
		{"doubled, all but half a dot over the right edge", one{9, 255, 2}, registers{1: 1}, 10, 255, twice[:1]},
		{"doubled, less 8", one{9, 100, 2}, registers{0: 8, 1: 1}, 10, 92, twice},
		{"doubled, less 8, half a dot over the left edge", one{9, 7, 2}, registers{0: 8, 1: 1}, 10, 0, twice[1:]},
		{"doubled, less 8, half of it over the left edge", one{9, 0, 2}, registers{0: 8, 1: 1}, 10, 0, twice[8:]},
		{"of 32, its row 7", one{9, 100, 2}, registers{1: 3}, 25, 100, twice},
		{"of 32, its row 8", one{9, 100, 2}, registers{1: 3}, 26, 102, threeTwice},
		{"of 32, its last line", one{9, 100, 2}, registers{1: 3}, 41, 102, threeTwice},
		{"of 32, behind it", one{9, 100, 2}, registers{1: 3}, 42, 0, nil},
		{"of 32, the tile's lowest bit", one{9, 100, 3}, registers{1: 3}, 25, 100, twice},
		{"of 32, its row 8 is the tile's behind it row 0", one{9, 100, 4}, registers{1: 3}, 27, 100, []byte{17, 17}},
		{"of 32, its row 15 is the tile's behind it row 7", one{9, 100, 5}, registers{1: 3}, 41, 100, []byte{24, 24}},
		{"of 32, its row 7, of a Y of 240", one{240, 100, 2}, registers{1: 3}, 0, 100, twice},
		{"of 32, its row 8, of a Y of 240", one{240, 100, 2}, registers{1: 3}, 1, 102, threeTwice},
	} {
		c.regs[5] = 255
		holdDots(t, c.say, sprite.Line(picture(c.s), c.regs, c.line), c.from, c.dots, false, false)
	}
}

func TestLineOfManyByHand(t *testing.T) {
	two := []byte{17, 18, 19, 20, 21, 22, 23, 24}
	for _, c := range []struct {
		say       string
		l         []one
		zero      byte
		from      int
		dots      []byte
		collision bool
	}{
		{"none", nil, 0, 0, nil, false},
		{"side by side", []one{{9, 100, 2}, {9, 108, 2}}, 0, 100, slices.Repeat(two, 2), false},
		{"the first one is ahead", []one{{9, 100, 2}, {9, 107, 2}}, 0, 100, append(slices.Clone(two), two[1:]...), true},
		{"the first one is ahead, at the right of the other", []one{{9, 107, 2}, {9, 100, 2}}, 0, 100, append(slices.Clone(two[:7]), two...), true},
		{"one above the other", []one{{9, 100, 2}, {9, 100, 2}}, 0, 100, two, true},
		{"the second one is seen where the first one is nothing", []one{{9, 100, 3}, {9, 93, 2}}, 0, 93, []byte{17, 18, 19, 20, 21, 22, 23, 24, 25, 26, 27, 28, 29, 30, 31}, false},
		{"nothing doesn't collide", []one{{9, 100, 4}, {9, 100, 2}, {9, 100, 4}}, 0, 100, two, false},
		{"one of them isn't on the line", []one{{9, 100, 2}, {10, 100, 2}}, 0, 100, two, false},
		{"the third one with the first one", []one{{9, 100, 2}, {9, 50, 4}, {9, 100, 5}}, 0, 100, two, true},
		{"over the left edge", []one{{9, 0, 2}, {9, 0, 2}}, 8, 0, nil, false},
		{"over the left edge, but for a dot", []one{{9, 1, 2}, {9, 1, 2}}, 8, 0, two[7:], true},
		{"over the left edge, and one that isn't", []one{{9, 7, 5}, {9, 8, 2}, {9, 7, 5}}, 8, 0, two, false},
		{"over the right edge", []one{{9, 249, 2}, {9, 255, 3}}, 0, 249, two[:7], false},
		{"over the right edge, and one at the left", []one{{9, 252, 2}, {9, 252, 4}}, 0, 252, two[:4], false},
		{"one that leaves at the edge, and another one", []one{{9, 255, 4}, {9, 100, 2}}, 0, 100, two, false},
		{"no more", []one{{9, 100, 2}, {208, 0, 0}, {9, 100, 2}}, 0, 100, two, false},
	} {
		r := sprite.Line(picture(c.l...), registers{0: c.zero, 5: 255}, 10)
		holdDots(t, c.say, r, c.from, c.dots, c.collision, false)
	}
}

func TestNineOnALine(t *testing.T) {
	var l []one
	for n := range 8 {
		l = append(l, one{20, byte(8 * n), 2})
	}
	seen := slices.Repeat([]byte{17, 18, 19, 20, 21, 22, 23, 24}, 8)
	holdDots(t, "eight", sprite.Line(picture(l...), registers{5: 255}, 21), 0, seen, false, false)
	nine := append(slices.Clone(l), one{20, 100, 2})
	holdDots(t, "nine", sprite.Line(picture(nine...), registers{5: 255}, 21), 0, seen, false, true)
	nine[8].x = 0
	holdDots(t, "the ninth one doesn't collide", sprite.Line(picture(nine...), registers{5: 255}, 21), 0, seen, false, true)
	nine[8].tile = 4
	holdDots(t, "a ninth one of nothing", sprite.Line(picture(nine...), registers{5: 255}, 21), 0, seen, false, true)
	nine[8].y = 21
	holdDots(t, "the ninth one is below", sprite.Line(picture(nine...), registers{5: 255}, 21), 0, seen, false, false)
	nine[8].y = 208
	holdDots(t, "no more ahead of the ninth one", sprite.Line(picture(append(nine, one{20, 0, 2})...), registers{5: 255}, 21), 0, seen, false, false)
	l[7].x = 0
	holdDots(t, "the eighth one collides", sprite.Line(picture(l...), registers{5: 255}, 21), 0, seen[:56], true, false)
}

func TestLineOfTheLastSprite(t *testing.T) {
	v := picture(slices.Repeat([]one{{100, 0, 2}}, 63)...)
	v[table+63], v[table+254], v[table+255] = 20, 50, 3
	holdDots(t, "the sprite 63", sprite.Line(v, registers{5: 255}, 21), 51, []byte{25, 26, 27, 28, 29, 30, 31}, false, false)
}

func TestLineOfEachPlace(t *testing.T) {
	for x := range wide {
		for size := range 4 {
			for _, zero := range []byte{0, 8} {
				for _, number := range []byte{2, 3, 5} {
					v := picture(one{20, byte(x), number}, one{255, byte(x), 2})
					for line := 20; line < 54; line += 3 {
						holdLine(t, v, registers{0: zero, 1: byte(size), 5: 255}, line)
					}
				}
			}
		}
	}
}

func TestLineOfEachTile(t *testing.T) {
	for number := range 256 {
		v := memory(vramSize)
		set(v, table, one{20, 100, byte(number)}, one{20, 112, byte(255 - number)})
		for _, six := range []byte{0, 4, 251, 255} {
			for size := range 4 {
				for line := 20; line < 54; line++ {
					holdLine(t, v, registers{1: byte(size), 5: 255, 6: six}, line)
				}
			}
		}
	}
}

func TestLineOfEachLine(t *testing.T) {
	v := picture()
	for y := range 256 {
		set(v, table, one{byte(y), 40, 5}, one{byte(y), 60, 2}, one{20, 42, 2})
		for size := range 4 {
			for line := y % 3; line < shown; line += 3 {
				holdLine(t, v, registers{1: byte(size), 5: 255}, line)
			}
		}
	}
}

func TestLineOfEachRegister(t *testing.T) {
	v := memory(vramSize)
	for n := range 4 { // many on a line
		set(v, 256*n, slices.Repeat([]one{{49, byte(60 * n), 17}, {10, 3, 40}, {45, byte(70 * n), 100}}, 3)...)
	}
	for n := range 256 {
		for _, line := range []int{0, 11, 50, 51, 60, 191} {
			holdLine(t, v, registers{0: byte(n)}, line)
			holdLine(t, v, registers{1: byte(n)}, line)
			holdLine(t, v, registers{0: 8, 1: 3, 5: byte(n), 6: 4}, line)
			holdLine(t, v, registers{1: 2, 5: 2, 6: byte(n)}, line)
		}
	}
}

func TestLineOfAnything(t *testing.T) {
	dice := rand.New(rand.NewSource(183))
	v := make([]byte, vramSize)
	for n := range 4000 {
		if n%20 == 0 {
			dice.Read(v)
			for place := range v { // some nothing among the dots, and not too often an end
				if dice.Intn(3) == 0 {
					v[place] = byte(dice.Intn(3)) * 16
				}
			}
		}
		holdLine(t, v, anyRegisters(dice), dice.Intn(shown))
	}
}

func TestMemoriesOfAnySize(t *testing.T) {
	for _, size := range []int{0, 1, 2, 3, 31, 32, 33, 63, 64, 65, 100, 128, 129, 130, 200, 255, 256, 257, 1000, 8192, 16127, 16128, 16129, 16191, 16192, 16256, 16257, 16258, 16382, 16383, 16384, 16385, 20000, 32768} {
		v := memory(size)
		for line := 0; line < shown; line += 7 {
			for _, five := range []byte{0, 2, 126} {
				for n := range byte(4) {
					regs := registers{1: n, 5: five, 6: 4 * (n % 2)}
					holdOn(t, v, regs, line)
					holdLine(t, v, regs, line)
				}
			}
		}
	}
	for _, v := range [][]byte{nil, {}} { // each Y is 0, then, and each dot
		on, more := sprite.On(v, registers{5: 255}, 8)
		if !slices.Equal(on, []int{0, 1, 2, 3, 4, 5, 6, 7}) || !more {
			t.Errorf("no memory: %v and %t", on, more)
		}
		if sprite.Line(v, registers{5: 255}, 8) != (sprite.Row{Overflow: true}) {
			t.Error("no memory: something is seen")
		}
		if on, more = sprite.On(v, registers{5: 255}, 9); len(on) > 0 || more {
			t.Errorf("no memory, below all: %v and %t", on, more)
		}
	}
}

// P1, P2, and the rules of memory

func TestOtherRegistersTellNothing(t *testing.T) {
	v := memory(vramSize)
	dice := rand.New(rand.NewSource(184))
	for range 200 {
		regs := anyRegisters(dice)
		line := dice.Intn(shown)
		r := sprite.Line(v, regs, line)
		on, more := sprite.On(v, regs, line)
		for _, other := range others {
			changed := regs
			changed[other] ^= byte(1 + dice.Intn(255))
			if sprite.Line(v, changed, line) != r {
				t.Fatalf("registers %v: the register %d tells of the line %d", regs, other, line)
			}
			if o, m := sprite.On(v, changed, line); !slices.Equal(o, on) || m != more {
				t.Fatalf("registers %v: the register %d tells of what is on the line %d", regs, other, line)
			}
			if sprite.Height(changed) != sprite.Height(regs) {
				t.Fatalf("registers %v: the register %d tells of the height", regs, other)
			}
		}
	}
}

func TestMemoryIsNotChanged(t *testing.T) {
	all := memory(vramSize)
	kept := slices.Clone(all)
	v := all[:15000]
	for line := -3; line < 300; line++ {
		regs := registers{0: byte(line), 1: byte(line), 5: byte(line), 6: byte(line)}
		sprite.On(v, regs, line)
		sprite.Line(v, regs, line)
	}
	if !bytes.Equal(all, kept) {
		t.Error("the memory, or its spare room, was changed")
	}
}

func TestSpareRoomIsNotSeen(t *testing.T) {
	v := bytes.Repeat([]byte{255}, vramSize)
	for n := range 8192 {
		v[n] = 0
	}
	if on, more := sprite.On(v[:8192], registers{5: 126}, 0); len(on) > 0 || more {
		t.Error("On sees what is in the spare room")
	}
	if r := sprite.Line(v[:8192], registers{6: 4}, 5); r != (sprite.Row{Overflow: true}) {
		t.Error("Line sees what is in the spare room")
	}
	if on, more := sprite.On(v, registers{5: 126}, 0); len(on) != 8 || !more {
		t.Error("On doesn't see what is in the memory")
	}
}

func TestAnswersAreNewMemory(t *testing.T) {
	v := picture(slices.Repeat([]one{{20, 0, 2}}, 9)...)
	regs := registers{5: 255}
	first, _ := sprite.On(v, regs, 21)
	first = first[:cap(first)]
	for n := range first {
		first[n] = -1
	}
	second, _ := sprite.On(v, regs, 21)
	if !slices.Equal(second, []int{0, 1, 2, 3, 4, 5, 6, 7}) {
		t.Errorf("what was answered and written over is answered again: %v", second)
	}
	third, _ := sprite.On(v, regs, 22)
	third = third[:cap(third)]
	for n := range third {
		third[n] = -1
	}
	if !slices.Equal(second, []int{0, 1, 2, 3, 4, 5, 6, 7}) {
		t.Errorf("two answers share memory: %v", second)
	}
	clear(v)
	if !slices.Equal(second, []int{0, 1, 2, 3, 4, 5, 6, 7}) {
		t.Errorf("an answer shares memory with what was handed in: %v", second)
	}
}

func TestAnswersHangOnNothingElse(t *testing.T) {
	v := memory(vramSize)
	set(v, table, slices.Repeat([]one{{49, 60, 17}, {150, 3, 40}, {45, 70, 100}}, 6)...)
	empty := bytes.Repeat([]byte{208}, vramSize)
	regs := registers{0: 8, 1: 3, 5: 255, 6: 4}
	var first [shown]sprite.Row
	var on [shown][]int
	for line := range first {
		first[line] = sprite.Line(v, regs, line)
		on[line], _ = sprite.On(v, regs, line)
	}
	for line := shown - 1; line >= 0; line-- {
		if sprite.Line(empty, regs, line) != (sprite.Row{}) {
			t.Fatalf("the line %d is told of another memory", line)
		}
		sprite.Line(v, registers{5: 2}, line)
		if sprite.Line(slices.Clone(v), regs, line) != first[line] {
			t.Fatalf("the line %d is told another way later", line)
		}
		if later, _ := sprite.On(v, regs, line); !slices.Equal(later, on[line]) {
			t.Fatalf("what is on the line %d is told another way later", line)
		}
	}
	copy(v, empty)
	if sprite.Line(v, regs, 60) != (sprite.Row{}) || first[60] == (sprite.Row{}) {
		t.Error("the line 60 is told as the memory was, not as it is")
	}
}
