package line_test

import (
	"bytes"
	"math"
	"math/rand"
	"slices"
	"testing"

	"joystick/api"
	"joystick/back"
	"joystick/line"
	"joystick/sprite"
)

// The chapter's numbers, written out, so that a wrong one in the package isn't followed.
const (
	vramSize = 16384
	cramSize = 32
	shown    = 192
	wide     = 256
	ground   = 14336 // where the ground's table is, when R2 is 14
	table    = 16128 // where the sprites' table is, when R5 is 126
)

// registers are those that a line is handed.
type registers = [11]byte

// far are numbers far from any line.
var far = []int{
	math.MinInt, math.MinInt + 1, math.MinInt + 5, math.MinInt + 191, math.MinInt + 256, math.MinInt / 2, math.MinInt/2 + 7, math.MinInt / 3,
	math.MinInt32, math.MinInt32 - 1, math.MinInt32 + 5, -1 << 40, -1<<40 + 3, -1<<32 + 5, -1 << 32, -1<<32 + 191, -1 << 16, -65535, -65536 + 20, -1024, -513, -512,
	math.MaxInt, math.MaxInt - 1, math.MaxInt - 15, math.MaxInt - 63, math.MaxInt - 255, math.MaxInt / 2, math.MaxInt/2 + 7, math.MaxInt / 3,
	math.MaxInt32, math.MaxInt32 + 1, 1 << 40, 1<<40 + 3, 1<<32 + 5, 1 << 32, 1<<32 + 191, 1 << 16, 65535, 65536 + 20, 1024, 513, 512,
}

// memory is bytes of which any two places differ, nearly always.
func memory(size int) []byte {
	v := make([]byte, size)
	rand.New(rand.NewSource(19)).Read(v)
	return v
}

// anyRegisters are registers of any bytes, of a line that is shown.
func anyRegisters(dice *rand.Rand) registers {
	var regs registers
	for n := range regs {
		regs[n] = byte(dice.Intn(256))
	}
	regs[1] |= 64
	return regs
}

// standing are registers of a line that is shown, with the ground's table at 14336 and the sprites' at 16128; those that are handed in count beside.
func standing(more registers) registers {
	for n, v := range (registers{1: 64, 2: 14, 5: 126}) {
		more[n] |= v
	}
	return more
}

// paints are colors of which each differs from the others.
func paints() []byte {
	c := make([]byte, cramSize)
	for n := range c {
		c[n] = byte(63 - n)
	}
	return c
}

// one is a sprite: its X and its tile.
type one struct{ x, tile byte }

// picture is a memory with some sprites on the lines 10 to 17. The tile 0 is nothing, the tile 1 has the color 5 in each dot, the tile 2 has the color 7 in its first four dots and nothing behind, and the tile 3 has the color 9. The ground is of the tile 0 but at the second columns of tiles, from 1 on, that are handed in: each is a tile and, times 256, how it is seen.
func picture(entries []int, l ...one) []byte {
	v := make([]byte, vramSize)
	for row := range 8 {
		at := 4 * row
		v[32+at], v[32+at+2] = 255, 255
		v[64+at], v[64+at+1], v[64+at+2] = 240, 240, 240
		v[96+at], v[96+at+3] = 255, 255
	}
	for down := range 28 {
		for i, entry := range entries {
			at := ground + 64*down + 2*(i+1)
			v[at], v[at+1] = byte(entry), byte(entry/256)
		}
	}
	for n, s := range l {
		v[table+n], v[table+128+2*n], v[table+129+2*n] = 9, s.x, s.tile
	}
	v[table+len(l)] = 208
	return v
}

// bit tells whether a byte's bit is 1, by what the byte counts.
func bit(v byte, n int) bool { return int(v)/[8]int{1, 2, 4, 8, 16, 32, 64, 128}[n]%2 == 1 }

// paintOf is what the chapter says of Paint.
func paintOf(cram []byte, n int) byte {
	n = (n%32 + 32) % 32
	if n < len(cram) {
		return cram[n] % 64
	}
	return 0
}

// lineOf is what the chapter says of Draw, column by column.
func lineOf(vram, cram []byte, regs registers, number int) line.Picture {
	var p line.Picture
	if number < 0 || number > 191 {
		return p
	}
	shows := bit(regs[1], 6)
	g, s := back.Line(vram, regs, number), sprite.Line(vram, regs, number)
	for x := range wide {
		switch {
		case !shows, x <= 7 && bit(regs[0], 5):
			p.Color[x] = paintOf(cram, 16+int(regs[7])%16)
		case s.Color[x] > 0 && !g.Front[x]:
			p.Color[x] = paintOf(cram, int(s.Color[x]))
		default:
			p.Color[x] = paintOf(cram, int(g.Color[x]))
		}
	}
	p.Overflow, p.Collision = shows && s.Overflow, shows && s.Collision
	return p
}

// holdDraw holds Draw against the chapter's words.
func holdDraw(t *testing.T, vram, cram []byte, regs registers, number int) {
	t.Helper()
	got, want := line.Draw(vram, cram, regs, number), lineOf(vram, cram, regs, number)
	for x := range wide {
		if got.Color[x] != want.Color[x] {
			t.Fatalf("of %d and %d bytes, registers %v, line %d, x %d: %d instead of %d", len(vram), len(cram), regs, number, x, got.Color[x], want.Color[x])
		}
	}
	if got.Overflow != want.Overflow || got.Collision != want.Collision {
		t.Fatalf("of %d and %d bytes, registers %v, line %d: %t and %t instead of %t and %t", len(vram), len(cram), regs, number, got.Overflow, got.Collision, want.Overflow, want.Collision)
	}
}

// holdAll holds a whole line against one color, and that it tells nothing.
func holdAll(t *testing.T, say string, p line.Picture, color byte) {
	t.Helper()
	if want := (line.Picture{Color: [wide]byte(bytes.Repeat([]byte{color}, wide))}); p != want {
		t.Fatalf("%s: %v instead of %d everywhere", say, p, color)
	}
}

// The chapter's numbers

func TestNumbersOfThePicture(t *testing.T) {
	if api.Shown != shown || api.Wide != wide || api.VdpRegs != len(registers{}) || api.VramSize != vramSize || api.CramSize != cramSize {
		t.Error("a picture is of 192 lines of 256 dots, made of 16384 bytes and 32 colors, as 11 registers say")
	}
}

func TestExample(t *testing.T) {
	c := paints()
	for number := range shown {
		holdAll(t, "all registers nothing", line.Draw(memory(vramSize), c, registers{}, number), 63-16)
	}
	c[16] = 255
	holdAll(t, "all registers nothing", line.Draw(nil, c, registers{}, 0), 63)
}

// P19.1 Paint and Shows

func TestPaintByHand(t *testing.T) {
	c := bytes.Repeat([]byte{33}, cramSize)
	c[0], c[1], c[5], c[16], c[31] = 1, 2, 255, 64, 63
	for _, k := range []struct {
		n    int
		want byte
	}{
		{0, 1}, {1, 2}, {2, 33}, {5, 63}, {15, 33}, {16, 0}, {17, 33}, {30, 33}, {31, 63}, {32, 1}, {33, 2}, {37, 63}, {63, 63}, {64, 1}, {255, 63}, {256, 1},
		{-1, 63}, {-2, 33}, {-27, 63}, {-31, 2}, {-32, 1}, {-33, 63}, {math.MinInt, 1}, {math.MinInt + 1, 2}, {math.MaxInt, 63}, {math.MaxInt - 31, 1}, {1 << 32, 1}, {1<<32 + 31, 63},
	} {
		if got := line.Paint(c, k.n); got != k.want {
			t.Errorf("%d: %d instead of %d", k.n, got, k.want)
		}
	}
}

func TestPaintOfEachByte(t *testing.T) {
	for v := range 256 {
		c := make([]byte, cramSize)
		c[9] = byte(v)
		if got := line.Paint(c, 9); int(got) != v%64 {
			t.Errorf("of the byte %d: %d", v, got)
		}
	}
}

func TestPaintOfEachSize(t *testing.T) {
	all := memory(100)
	for n := range all { // none of them is seen as nothing
		all[n] |= 1
	}
	numbers := slices.Clone(far)
	for n := range 400 {
		numbers = append(numbers, n-200)
	}
	for _, size := range []int{0, 1, 2, 5, 15, 16, 17, 20, 30, 31, 32, 33, 48, 64, 100} {
		c := slices.Clone(all[:size])
		for _, n := range numbers {
			if got, want := line.Paint(c, n), paintOf(c, n); got != want {
				t.Fatalf("of %d bytes, %d: %d instead of %d", size, n, got, want)
			}
		}
	}
	for _, n := range numbers {
		if line.Paint(nil, n) != 0 {
			t.Fatalf("of none, %d: %d", n, line.Paint(nil, n))
		}
	}
}

func TestShows(t *testing.T) {
	for v := range 256 {
		want := v >= 64 && v < 128 || v >= 192
		for _, other := range []byte{0, 64, 255} {
			regs := registers(bytes.Repeat([]byte{other}, 11))
			regs[1] = byte(v)
			if got := line.Shows(regs); got != want {
				t.Errorf("R1 %d, the others %d: %t", v, other, got)
			}
		}
	}
}

// P19.2 Draw

func TestNotShown(t *testing.T) {
	v, c := picture(nil, slices.Repeat([]one{{50, 1}}, 9)...), paints()
	for seven := range 256 {
		for _, number := range []int{0, 1, 10, 17, 100, 190, 191} {
			for _, r1 := range []byte{0, 63, 128, 191} {
				regs := registers{0: byte(seven), 1: r1, 2: 14, 5: 126, 7: byte(seven)}
				holdAll(t, "not shown", line.Draw(v, c, regs, number), byte(63-16-seven%16))
			}
		}
	}
}

func TestNoLine(t *testing.T) {
	v, c := picture(nil, slices.Repeat([]one{{50, 1}}, 9)...), paints()
	v[table] = 190
	lines := slices.Clone(far)
	for n := range 1000 {
		lines = append(lines, -1-n, shown+n)
	}
	for _, number := range lines {
		for _, r1 := range []byte{0, 64, 66, 255} {
			for _, r0 := range []byte{0, 32, 255} {
				regs := registers{0: r0, 1: r1, 2: 14, 5: 126, 7: 3}
				holdAll(t, "no line", line.Draw(v, c, regs, number), 0)
			}
		}
	}
}

func TestFirstAndLastLine(t *testing.T) {
	v, c := picture([]int{3, 1}), paints()
	for number := range shown {
		p := line.Draw(v, c, standing(registers{}), number)
		if p.Color[0] != 63 || p.Color[7] != 63 || p.Color[8] != 63-9 || p.Color[16] != 63-5 || p.Color[24] != 63 {
			t.Errorf("the line %d: %v", number, p.Color[:32])
		}
	}
}

func TestDrawByHand(t *testing.T) {
	const front, second = 16 * 256, 8 * 256 // what an entry's second byte says: bits 4 and 3
	for _, k := range []struct {
		say     string
		entries []int
		l       []one
		regs    registers
		want    []byte // colors of the columns from 0 on; nothing behind them
		told    line.Picture
	}{
		{say: "nothing"},
		{say: "the ground", entries: []int{1}, want: dots(0, 8, 5, 8)},
		{say: "the ground's second colors", entries: []int{1 + second}, want: dots(0, 8, 21, 8, 0, 0)},
		{say: "the ground's second nothing", entries: []int{second}, want: dots(0, 8, 16, 8)},
		{say: "what moves", l: []one{{8, 1}}, want: dots(0, 8, 21, 8)},
		{say: "what moves above the ground", entries: []int{3}, l: []one{{12, 1}}, want: dots(0, 8, 9, 4, 21, 8)},
		{say: "nothing moves above the ground", entries: []int{3}, l: []one{{8, 2}}, want: dots(0, 8, 23, 4, 9, 4)},
		{say: "the ground in front", entries: []int{3 + front}, l: []one{{12, 1}}, want: dots(0, 8, 9, 8, 21, 4)},
		{say: "nothing in front", entries: []int{front}, l: []one{{12, 1}}, want: dots(0, 12, 21, 8)},
		{say: "the second nothing in front", entries: []int{second + front}, l: []one{{12, 1}}, want: dots(0, 8, 16, 4, 21, 8)},
		{say: "in front where it isn't nothing", entries: []int{2 + front}, l: []one{{8, 1}}, want: dots(0, 8, 7, 4, 21, 4)},
		{say: "the second colors in front", entries: []int{1 + second + front}, l: []one{{8, 3}}, want: dots(0, 8, 21, 8)},
		{say: "in front beside", entries: []int{0, 3 + front}, l: []one{{12, 1}}, want: dots(0, 12, 21, 4, 9, 8)},
		{say: "at the left", l: []one{{0, 1}}, want: dots(21, 8)},
		{say: "the left hidden", entries: []int{3}, regs: registers{0: 32, 7: 2}, want: dots(18, 8, 9, 8)},
		{say: "the left hidden, with what moves", entries: []int{3}, l: []one{{4, 1}}, regs: registers{0: 32, 7: 2}, want: dots(18, 8, 21, 4, 9, 4)},
		{say: "the left hidden, of all bits of R7", regs: registers{0: 32, 7: 255}, want: dots(31, 8)},
		{say: "the left hidden, of no bit that counts of R7", regs: registers{0: 32, 7: 240}, want: dots(16, 8)},
		{say: "the left not hidden", entries: []int{3}, l: []one{{4, 1}}, regs: registers{0: 16, 7: 2}, want: dots(0, 4, 21, 8, 9, 4)},
		{say: "the ground is moved, and the left hidden", entries: []int{3}, regs: registers{0: 32, 7: 2, 8: 252}, want: dots(18, 8, 9, 4)},
		{say: "the ground is moved into the left that is hidden", entries: []int{3}, regs: registers{0: 32, 7: 2, 8: 248}, want: dots(18, 8)},
		{say: "two above each other", l: []one{{8, 1}, {12, 3}}, want: dots(0, 8, 21, 8, 25, 4), told: line.Picture{Collision: true}},
		{say: "two in front of which the ground is", entries: []int{3 + front}, l: []one{{8, 1}, {8, 3}}, want: dots(0, 8, 9, 8), told: line.Picture{Collision: true}},
		{say: "two that are hidden", l: []one{{0, 1}, {0, 3}}, regs: registers{0: 32, 7: 2}, want: dots(18, 8), told: line.Picture{Collision: true}},
		{say: "eight", l: slices.Repeat([]one{{8, 0}}, 8)},
		{say: "nine of nothing", l: slices.Repeat([]one{{8, 0}}, 9), told: line.Picture{Overflow: true}},
		{say: "nine, the first two seen", l: append([]one{{8, 1}, {16, 3}}, slices.Repeat([]one{{8, 0}}, 7)...), want: dots(0, 8, 21, 8, 25, 8), told: line.Picture{Overflow: true}},
		{say: "nine, the last one not seen", l: append(slices.Repeat([]one{{8, 0}}, 8), one{8, 1}), told: line.Picture{Overflow: true}},
		{say: "nine above each other", l: slices.Repeat([]one{{8, 1}}, 9), want: dots(0, 8, 21, 8), told: line.Picture{Overflow: true, Collision: true}},
		{say: "nine that are hidden", l: slices.Repeat([]one{{0, 1}}, 9), regs: registers{0: 32}, want: dots(16, 8), told: line.Picture{Overflow: true, Collision: true}},
	} {
		want := k.told
		copy(want.Color[:], k.want)
		for x, color := range want.Color {
			want.Color[x] = 63 - color
		}
		if got := line.Draw(picture(k.entries, k.l...), paints(), standing(k.regs), 10); got != want {
			t.Errorf("%s: %v %t %t instead of %v %t %t", k.say, got.Color[:40], got.Overflow, got.Collision, want.Color[:40], want.Overflow, want.Collision)
		}
	}
}

// dots are colors, each so many times.
func dots(pairs ...byte) []byte {
	var l []byte
	for n := 0; n < len(pairs); n += 2 {
		l = append(l, bytes.Repeat(pairs[n:n+1], int(pairs[n+1]))...)
	}
	return l
}

func TestNotShownTellsNothing(t *testing.T) {
	v := picture(nil, slices.Repeat([]one{{8, 1}}, 9)...)
	regs := standing(registers{})
	if p := line.Draw(v, paints(), regs, 10); !p.Overflow || !p.Collision {
		t.Error("nine above each other aren't told")
	}
	regs[1] = 0
	holdAll(t, "nine above each other, not shown", line.Draw(v, paints(), regs, 10), 63-16)
}

func TestColorsThatArentNothingArePaintedSo(t *testing.T) {
	v, c := picture([]int{3}, one{8, 1}), paints()
	c[21] = 192 // what moves is seen, even if its color's paint is 0
	p := line.Draw(v, c, standing(registers{}), 10)
	if p.Color[8] != 0 || p.Color[15] != 0 || p.Color[16] != 63 || p.Color[7] != 63 {
		t.Errorf("what is painted as 0 isn't seen: %v", p.Color[:24])
	}
	p = line.Draw(v, c[:20], standing(registers{}), 10)
	if p.Color[8] != 0 || p.Color[15] != 0 || p.Color[16] != 63 || p.Color[7] != 63 {
		t.Errorf("what has no paint isn't seen: %v", p.Color[:24])
	}
}

func TestEachPaintIsSeen(t *testing.T) {
	v := memory(vramSize)
	for n := range cramSize {
		c := make([]byte, cramSize)
		c[n] = 255
		for number := 0; number < shown; number += 5 {
			holdDraw(t, v, c, standing(registers{7: byte(n)}), number)
			holdDraw(t, v, c, standing(registers{0: 32, 7: byte(n)}), number)
			holdDraw(t, v, c, registers{7: byte(n)}, number)
		}
	}
}

func TestDrawOfEachLine(t *testing.T) {
	v, c := memory(vramSize), memory(cramSize)
	for number := -10; number < 300; number++ {
		for _, r0 := range []byte{0, 8, 32, 64, 128, 232} {
			for _, r1 := range []byte{0, 64, 65, 66, 67, 188} {
				holdDraw(t, v, c, registers{0: r0, 1: r1, 2: 14, 5: 126, 6: 4, 7: 5, 8: byte(number), 9: 77}, number)
			}
		}
	}
}

func TestDrawOfEachRegister(t *testing.T) {
	v, c := memory(vramSize), memory(cramSize)
	for n := range 64 { // some are on each line
		v[table+n] = byte(29 * n % 192)
	}
	for n := range 11 {
		for value := range 256 {
			regs := registers{0: 32, 1: 67, 2: 14, 5: 126, 7: 9, 8: 3, 9: 5}
			regs[n] = byte(value)
			for _, number := range []int{0, 15, 16, 101, 191} {
				holdDraw(t, v, c, regs, number)
			}
		}
	}
}

func TestDrawOfAnything(t *testing.T) {
	dice := rand.New(rand.NewSource(192))
	v, c := make([]byte, vramSize), make([]byte, cramSize)
	for n := range 8000 {
		if n%20 == 0 {
			dice.Read(c)
			dice.Read(v)
			for place := range v { // some nothing among the dots, and not too often an end
				if dice.Intn(3) == 0 {
					v[place] = byte(dice.Intn(3)) * 16
				}
			}
		}
		holdDraw(t, v, c, anyRegisters(dice), dice.Intn(shown+8)-4)
	}
}

func TestMemoriesOfAnySize(t *testing.T) {
	colors := memory(64)
	for _, size := range []int{0, 1, 33, 100, 1000, 8192, 14336, 14337, 15000, 16128, 16130, 16383, 16384, 16385, 20000, 32768} {
		v := memory(size)
		for _, many := range []int{0, 1, 15, 16, 17, 20, 31, 32, 33, 64} {
			for number := 0; number < shown; number += 19 {
				for _, r0 := range []byte{0, 32} {
					for r1 := range byte(4) {
						holdDraw(t, v, colors[:many], registers{0: r0, 1: 64 + r1, 2: 14, 5: 126, 7: byte(number)}, number)
					}
				}
				holdDraw(t, v, colors[:many], registers{7: byte(number)}, number)
			}
		}
	}
	for _, none := range [][]byte{nil, {}} {
		holdAll(t, "no colors", line.Draw(memory(vramSize), none, registers{}, 5), 0)
		p := line.Draw(none, paints(), registers{0: 32, 1: 64}, 8) // each Y is 0, then, and each dot
		want := line.Picture{Overflow: true}
		for x := range wide {
			want.Color[x] = 63
			if x < 8 {
				want.Color[x] = 63 - 16
			}
		}
		if p != want {
			t.Errorf("no memory: %v", p)
		}
	}
}

// P1, P2, and the rules of memory

func TestOtherRegistersTellNothing(t *testing.T) {
	v, c := memory(vramSize), memory(cramSize)
	dice := rand.New(rand.NewSource(194))
	for range 300 {
		regs, number := anyRegisters(dice), dice.Intn(shown)
		p := line.Draw(v, c, regs, number)
		for _, other := range []int{3, 4, 10} {
			changed := regs
			changed[other] ^= byte(1 + dice.Intn(255))
			if line.Draw(v, c, changed, number) != p {
				t.Fatalf("registers %v: the register %d tells of the line %d", regs, other, number)
			}
		}
		hidden := regs
		hidden[1] &^= 64
		if line.Draw(v, c, hidden, number) != line.Draw(nil, c, registers{7: regs[7]}, number) {
			t.Fatalf("registers %v: another one than R7 tells of the line %d, which isn't shown", hidden, number)
		}
	}
}

func TestMemoryIsNotChanged(t *testing.T) {
	all, colors := memory(vramSize), memory(cramSize)
	kept, keptColors := slices.Clone(all), slices.Clone(colors)
	for number := -3; number < 300; number++ {
		n := byte(number)
		for _, r1 := range []byte{n &^ 64, n | 64} {
			line.Draw(all[:15000], colors[:20], registers{0: n, 1: r1, 2: n, 5: n, 6: n, 7: n, 8: n, 9: n}, number)
		}
		line.Paint(colors[:20], number)
	}
	if !bytes.Equal(all, kept) || !bytes.Equal(colors, keptColors) {
		t.Error("a memory, or its spare room, was changed")
	}
}

func TestSpareRoomIsNotSeen(t *testing.T) {
	v := bytes.Repeat([]byte{255}, vramSize)
	c := bytes.Repeat([]byte{255}, cramSize)
	if line.Paint(c[:9], 9) != 0 || line.Paint(c[:9], 8) != 63 || line.Paint(c[:0], 0) != 0 {
		t.Error("Paint sees what is in the spare room")
	}
	holdAll(t, "Draw sees what is in the spare room of the colors", line.Draw(v, c[:16], registers{7: 15}, 5), 0)
	clear(v[:8192])
	if p := line.Draw(v[:8192], paints(), registers{1: 64, 2: 14, 5: 126, 6: 4}, 5); p != (line.Picture{Color: [wide]byte(bytes.Repeat([]byte{63}, wide)), Overflow: true}) {
		t.Error("Draw sees what is in the spare room of the memory")
	}
}

func TestAnswersHangOnNothingElse(t *testing.T) {
	v, c := memory(vramSize), memory(cramSize)
	var first [shown]line.Picture
	regs := standing(registers{0: 32, 7: 5, 8: 3})
	for number := range first {
		first[number] = line.Draw(v, c, regs, number)
	}
	empty := make([]byte, vramSize)
	for number := shown - 1; number >= 0; number-- {
		line.Draw(empty, paints(), registers{7: 3}, number)
		line.Draw(empty, c, standing(registers{9: 3}), 300)
		if line.Draw(slices.Clone(v), slices.Clone(c), regs, number) != first[number] {
			t.Fatalf("the line %d is told another way later", number)
		}
	}
	kept := first[60]
	clear(v)
	clear(c)
	if line.Draw(v, c, regs, 60) != (line.Picture{}) || kept == (line.Picture{}) {
		t.Error("the line 60 is told as the memory was, not as it is")
	}
	if first[60] != kept {
		t.Error("what was answered changes with the memory")
	}
}
