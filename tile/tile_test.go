package tile_test

import (
	"bytes"
	"fmt"
	"math"
	"math/big"
	"math/rand"
	"slices"
	"testing"

	"joystick/api"
	"joystick/tile"
)

// The chapter's numbers, written out, so that a wrong one in the package isn't followed.
const (
	vramSize = 16384
	tiles    = 512
	rows     = 8
)

// far are numbers far from any place, tile, row, line or column.
var far = []int{
	math.MinInt, math.MinInt + 1, math.MinInt + 7, math.MinInt + 8, math.MinInt + 511, math.MinInt + 16383, math.MinInt / 2, math.MinInt/2 - 1, math.MinInt / 3, math.MinInt / 64, math.MinInt/64 - 1, math.MinInt / 32,
	math.MinInt32, math.MinInt32 - 1, math.MinInt32 + 1, -1 << 40, -1<<40 + 3, -1<<32 + 5, -1 << 32, -1 << 16, -65535, -16385, -16384, -16383, -513, -512, -511, -256, -255,
	math.MaxInt, math.MaxInt - 1, math.MaxInt - 7, math.MaxInt - 8, math.MaxInt - 511, math.MaxInt - 16383, math.MaxInt / 2, math.MaxInt/2 + 1, math.MaxInt / 3, math.MaxInt / 64, math.MaxInt/64 + 1, math.MaxInt / 32,
	math.MaxInt32, math.MaxInt32 + 1, 1 << 40, 1<<40 + 3, 1<<32 + 5, 1 << 32, 1 << 16, 65535, 16385, 32767, 32768, 1024, 1023, 513, 256, 255,
}

// near are numbers about 0, and somewhat beyond a row's, a line's and a column's.
func near() []int {
	var all []int
	for n := -70; n <= 70; n++ {
		all = append(all, n)
	}
	return all
}

// memory is bytes of which any two places differ, nearly always.
func memory(size int) []byte {
	v := make([]byte, size)
	rand.New(rand.NewSource(16)).Read(v)
	return v
}

// rest tells a number's remainder from 0 on, by numbers of any size.
func rest(n *big.Int, many int64) int {
	return int(new(big.Int).Mod(n, big.NewInt(many)).Int64()) // Mod is never below 0
}

// times is n times a number, and some more, by numbers of any size.
func times(many int64, n int, more *big.Int) *big.Int {
	product := new(big.Int).Mul(big.NewInt(many), big.NewInt(int64(n)))
	return product.Add(product, more)
}

// byteAt is what the chapter says of At.
func byteAt(v []byte, a *big.Int) byte {
	place := rest(a, vramSize)
	if place < len(v) {
		return v[place]
	}
	return 0
}

// rowOf is what the chapter says of Row: the bytes are written out from the bit 7 on, as the dots are from the left on.
func rowOf(v []byte, number, row int, turned bool) [8]byte {
	number = rest(big.NewInt(int64(number)), tiles)
	row = rest(big.NewInt(int64(row)), rows)
	var dots [8]byte
	for n, counts := range []byte{1, 2, 4, 8} {
		for i, bit := range fmt.Sprintf("%08b", byteAt(v, big.NewInt(int64(32*number+4*row+n)))) {
			if turned {
				i = 7 - i
			}
			if bit == '1' {
				dots[i] += counts
			}
		}
	}
	return dots
}

// entryOf is what the chapter says of Entry.
func entryOf(v []byte, base, line, column int) (int, byte) {
	from := times(64, line, times(2, column, big.NewInt(int64(base))))
	lower := byteAt(v, from)
	higher := byteAt(v, from.Add(from, big.NewInt(1)))
	return int(lower) + 256*int(higher%2), higher / 2 % 16
}

// holdAt holds At against the chapter's words.
func holdAt(t *testing.T, v []byte, a int) {
	t.Helper()
	if got, want := tile.At(v, a), byteAt(v, big.NewInt(int64(a))); got != want {
		t.Fatalf("of %d bytes, at %d: %d instead of %d", len(v), a, got, want)
	}
}

// holdRow holds Row against the chapter's words, turned and not.
func holdRow(t *testing.T, v []byte, number, row int) {
	t.Helper()
	for _, turned := range []bool{false, true} {
		if got, want := tile.Row(v, number, row, turned), rowOf(v, number, row, turned); got != want {
			t.Fatalf("of %d bytes, tile %d, row %d, turned %t: %v instead of %v", len(v), number, row, turned, got, want)
		}
	}
}

// holdEntry holds Entry against the chapter's words.
func holdEntry(t *testing.T, v []byte, base, line, column int) {
	t.Helper()
	number, how := tile.Entry(v, base, line, column)
	wantNumber, wantHow := entryOf(v, base, line, column)
	if number != wantNumber || how != wantHow {
		t.Fatalf("of %d bytes, base %d, line %d, column %d: %d and %d instead of %d and %d", len(v), base, line, column, number, how, wantNumber, wantHow)
	}
}

// The chapter's numbers

func TestNumbersOfTheMemory(t *testing.T) {
	if api.VramSize != vramSize || tiles*rows*4 != vramSize {
		t.Error("the memory holds 512 tiles of 8 rows of 4 bytes")
	}
}

func TestExample(t *testing.T) {
	if dots := tile.Row([]byte{128}, 0, 0, false); dots != [8]byte{1} {
		t.Errorf("a tile whose first byte is 128 has %v in its first row", dots)
	}
}

// P16.1 At

func TestAtByHand(t *testing.T) {
	whole := make([]byte, vramSize)
	whole[0], whole[1], whole[2], whole[16382], whole[16383] = 10, 11, 12, 13, 14
	long := append(slices.Clone(whole), 20, 21, 22)
	for _, c := range []struct {
		v    []byte
		a    int
		want byte
	}{
		{whole, 0, 10}, {whole, 1, 11}, {whole, 2, 12}, {whole, 3, 0}, {whole, 16382, 13}, {whole, 16383, 14},
		{whole, 16384, 10}, {whole, 16385, 11}, {whole, 32767, 14}, {whole, 32768, 10}, {whole, 3*16384 + 2, 12},
		{whole, -1, 14}, {whole, -2, 13}, {whole, -3, 0}, {whole, -16382, 12}, {whole, -16383, 11}, {whole, -16384, 10}, {whole, -16385, 14},
		{whole, math.MaxInt, 14}, {whole, math.MinInt, 10}, {whole, math.MinInt + 1, 11}, {whole, math.MaxInt - 1, 13},
		{long, 16383, 14}, {long, 16384, 10}, {long, 16385, 11}, {long, 16386, 12}, {long, -1, 14},
		{[]byte{7}, 0, 7}, {[]byte{7}, 1, 0}, {[]byte{7}, -1, 0}, {[]byte{7}, 16383, 0}, {[]byte{7}, 16384, 7}, {[]byte{7}, -16384, 7}, {[]byte{7, 8}, 1, 8}, {[]byte{7, 8}, 2, 0}, {[]byte{7, 8}, 16385, 8},
		{nil, 0, 0}, {nil, 1, 0}, {nil, -1, 0}, {nil, 16384, 0}, {[]byte{}, 0, 0}, {[]byte{}, math.MinInt, 0},
	} {
		if got := tile.At(c.v, c.a); got != c.want {
			t.Errorf("of %d bytes, at %d: %d instead of %d", len(c.v), c.a, got, c.want)
		}
	}
}

func TestAtEachPlace(t *testing.T) {
	v := memory(vramSize)
	for _, round := range []int{-1 << 40, -65536, -3, -2, -1, 0, 1, 2, 3, 65536, 1 << 40} {
		for place, want := range v {
			if got := tile.At(v, round*vramSize+place); got != want {
				t.Fatalf("place %d of the round %d: %d instead of %d", place, round, got, want)
			}
		}
	}
}

func TestAtOfMemoriesOfAnySize(t *testing.T) {
	for _, size := range []int{0, 1, 2, 3, 4, 255, 256, 257, 8191, 8192, 8193, 16382, 16383, 16384, 16385, 20000, 32768, 70000} {
		v := memory(size)
		for a := -17000; a < 34000; a++ {
			holdAt(t, v, a)
		}
		for _, a := range far {
			for beside := -3; beside <= 3; beside++ {
				holdAt(t, v, a+beside) // beyond the greatest int comes the least one
			}
		}
	}
}

func TestAtLeastAndGreatestPlaces(t *testing.T) {
	v := memory(vramSize)
	for n := range 40000 {
		holdAt(t, v, math.MinInt+n)
		holdAt(t, v, math.MaxInt-n)
	}
}

// P16.2 Row

func TestRowByHand(t *testing.T) {
	v := make([]byte, vramSize)
	copy(v, []byte{128, 64, 32, 16})
	copy(v[4:], []byte{1, 1, 0, 1})
	copy(v[32*1+4*7:], []byte{0xFF, 0, 0xF0, 0})
	copy(v[32*511+4*7:], []byte{0x0F, 0x33, 0x55, 0xFE})
	for _, c := range []struct {
		number, row int
		turned      bool
		want        [8]byte
	}{
		{0, 0, false, [8]byte{1, 2, 4, 8}},
		{0, 0, true, [8]byte{0, 0, 0, 0, 8, 4, 2, 1}},
		{0, 1, false, [8]byte{7: 11}},
		{0, 1, true, [8]byte{11}},
		{0, 2, false, [8]byte{}},
		{1, 7, false, [8]byte{5, 5, 5, 5, 1, 1, 1, 1}},
		{1, 7, true, [8]byte{1, 1, 1, 1, 5, 5, 5, 5}},
		{511, 7, false, [8]byte{8, 12, 10, 14, 9, 13, 11, 7}},
		{511, 7, true, [8]byte{7, 11, 13, 9, 14, 10, 12, 8}},
		{511, 6, false, [8]byte{}},
		{512, 0, false, [8]byte{1, 2, 4, 8}},
		{0, 8, false, [8]byte{1, 2, 4, 8}},
		{0, 9, false, [8]byte{7: 11}},
		{1, 8, false, [8]byte{}},
		{0, 15, false, [8]byte{}},
		{1, 15, false, [8]byte{5, 5, 5, 5, 1, 1, 1, 1}},
		{1, -1, false, [8]byte{5, 5, 5, 5, 1, 1, 1, 1}},
		{1, -8, false, [8]byte{}},
		{0, -8, false, [8]byte{1, 2, 4, 8}},
		{-512, -16, true, [8]byte{0, 0, 0, 0, 8, 4, 2, 1}},
		{-1, -1, false, [8]byte{8, 12, 10, 14, 9, 13, 11, 7}},
		{-511, 7, true, [8]byte{1, 1, 1, 1, 5, 5, 5, 5}},
		{math.MinInt, math.MinInt, false, [8]byte{1, 2, 4, 8}},
		{math.MaxInt, math.MaxInt, true, [8]byte{7, 11, 13, 9, 14, 10, 12, 8}},
	} {
		if got := tile.Row(v, c.number, c.row, c.turned); got != c.want {
			t.Errorf("tile %d, row %d, turned %t: %v instead of %v", c.number, c.row, c.turned, got, c.want)
		}
	}
}

func TestRowOfEachTile(t *testing.T) {
	v := memory(vramSize)
	for number := range tiles {
		for row := range rows {
			holdRow(t, v, number, row)
		}
	}
}

func TestRowOfEachByte(t *testing.T) {
	for place := range 4 {
		for b := range 256 {
			for _, others := range []byte{0, 255, 0xA5} {
				v := bytes.Repeat([]byte{others}, 4)
				v[place] = byte(b)
				holdRow(t, v, 0, 0)
			}
		}
	}
}

func TestRowOfNoTile(t *testing.T) {
	v := memory(vramSize)
	for number := -1100; number < 1700; number++ {
		for _, row := range []int{0, 3, 7} {
			holdRow(t, v, number, row)
		}
	}
	for _, number := range far {
		for row := range rows {
			holdRow(t, v, number, row)
		}
	}
}

func TestRowOfNoRow(t *testing.T) {
	v := memory(vramSize)
	for _, row := range append(near(), far...) {
		for _, number := range append([]int{0, 1, 2, 255, 256, 300, 510, 511, 512, -1}, far...) {
			holdRow(t, v, number, row)
		}
	}
}

func TestRowOfMemoriesOfAnySize(t *testing.T) {
	for size := range 130 {
		v := memory(size)
		for number := -1; number < 6; number++ {
			for row := range rows {
				holdRow(t, v, number, row)
			}
		}
	}
	for _, size := range []int{8192, 16379, 16380, 16381, 16382, 16383, 16384, 16385, 16416, 20000, 32768} {
		v := memory(size)
		for number := 500; number < 530; number++ {
			for row := range rows {
				holdRow(t, v, number, row)
			}
		}
	}
	for _, v := range [][]byte{nil, {}} {
		if got := tile.Row(v, 3, 4, false); got != [8]byte{} {
			t.Errorf("no memory: %v", got)
		}
	}
}

// P16.3 Entry

func TestEntryByHand(t *testing.T) {
	v := make([]byte, vramSize)
	set := func(place int, lower, higher byte) { v[place], v[place+1] = lower, higher }
	set(0, 5, 0)
	set(2, 0, 1)
	set(64, 255, 255)
	set(64*27+62, 0x34, 0x12)
	set(14336, 7, 2)
	set(14336+64, 8, 4)
	set(14336+2, 9, 8)
	set(14336+64*27+62, 10, 17)
	set(16382, 11, 32)
	set(1001, 0x83, 0xE1)
	for _, c := range []struct {
		base, line, column, number int
		how                        byte
	}{
		{0, 0, 0, 5, 0}, {0, 0, 1, 256, 0}, {0, 1, 0, 511, 15}, {0, 27, 31, 0x34, 9},
		{14336, 0, 0, 7, 1}, {14336, 1, 0, 8, 2}, {14336, 0, 1, 9, 4}, {14336, 27, 31, 266, 8},
		{14336, 31, 31, 11, 0}, {16382, 0, 0, 11, 0}, {1001, 0, 0, 387, 0}, {1000, 0, 0, 256, 1},
		{16383, 0, 0, 32 + 256, 2}, {-1, 0, 0, 32 + 256, 2}, {16384, 0, 0, 5, 0}, {-16384, 0, 0, 5, 0},
		{0, 256, 0, 5, 0}, {0, -1, 31, 11, 0}, {0, 0, 32, 511, 15}, {0, 0, -1, 11, 0}, {64, -1, 0, 5, 0}, {64, 0, -32, 5, 0}, {14336, 32, 0, 5, 0},
		{math.MinInt, 0, 0, 5, 0}, {math.MaxInt, 0, 0, 32 + 256, 2}, {0, math.MinInt, 0, 5, 0}, {0, 0, math.MinInt, 5, 0}, {0, math.MaxInt, 32, 5, 0}, {0, 0, math.MaxInt, 11, 0},
	} {
		if number, how := tile.Entry(v, c.base, c.line, c.column); number != c.number || how != c.how {
			t.Errorf("base %d, line %d, column %d: %d and %d instead of %d and %d", c.base, c.line, c.column, number, how, c.number, c.how)
		}
	}
}

func TestEntryOfEachNumber(t *testing.T) {
	for n := range 65536 {
		number, how := tile.Entry([]byte{byte(n % 256), byte(n / 256)}, 0, 0, 0)
		if number != n%512 || int(how) != n/512%16 {
			t.Fatalf("the entry %d: %d and %d", n, number, how)
		}
	}
}

func TestEntryOfEachPlace(t *testing.T) {
	v := memory(vramSize)
	for base := 0; base < vramSize; base += 1024 {
		for line := range 32 {
			for column := range 32 {
				holdEntry(t, v, base, line, column)
			}
		}
	}
	for base := -100; base < vramSize+100; base++ { // odd ones too
		holdEntry(t, v, base, 0, 0)
		holdEntry(t, v, base, 27, 31)
	}
}

func TestEntryFarAndWide(t *testing.T) {
	v := memory(vramSize)
	numbers := append([]int{-70, -33, -32, -2, -1, 0, 1, 2, 27, 28, 31, 32, 33, 63, 64, 14336}, far...)
	for _, base := range numbers {
		for _, line := range numbers {
			for _, column := range numbers {
				holdEntry(t, v, base, line, column)
			}
		}
	}
	dice := rand.New(rand.NewSource(163))
	for range 100000 {
		holdEntry(t, v, int(dice.Uint64()), int(dice.Uint64()), int(dice.Uint64()))
	}
}

func TestEntryOfLinesAndColumnsBeyond(t *testing.T) {
	v := memory(vramSize)
	for line := -300; line < 300; line++ {
		for _, column := range near() {
			holdEntry(t, v, 14336, line, column)
		}
	}
}

func TestEntryOfMemoriesOfAnySize(t *testing.T) {
	for size := range 140 {
		v := memory(size)
		for _, line := range []int{-1, 0, 1, 2} {
			for column := range 32 {
				holdEntry(t, v, 0, line, column)
				holdEntry(t, v, 1, line, column)
			}
		}
	}
	for _, size := range []int{0, 1, 14336, 14337, 16382, 16383, 16384, 16385, 16386, 20000, 32768} {
		v := memory(size)
		for base := 16300; base < 16500; base++ {
			holdEntry(t, v, base, 0, 0)
		}
		holdEntry(t, v, -1, 0, 0)
	}
	if number, how := tile.Entry(nil, 14336, 3, 4); number != 0 || how != 0 {
		t.Errorf("no memory: %d and %d", number, how)
	}
}

// P1, P2, and the rules of memory

func TestMemoryIsNotChanged(t *testing.T) {
	all := memory(vramSize)
	kept := slices.Clone(all)
	v := all[:9000]
	for n := range vramSize {
		tile.At(v, n)
		tile.Row(v, n, n, n%2 == 0)
		tile.Entry(v, n, n, n)
	}
	if !bytes.Equal(all, kept) {
		t.Error("the memory, or its spare room, was changed")
	}
}

func TestSpareRoomIsNotSeen(t *testing.T) {
	v := bytes.Repeat([]byte{255}, vramSize)[:35]
	if tile.At(v, 34) != 255 || tile.At(v, 35) != 0 || tile.At(v, 16383) != 0 {
		t.Error("At sees what is in the spare room, or not what is ahead of it")
	}
	if dots := tile.Row(v, 1, 0, false); dots != [8]byte{7, 7, 7, 7, 7, 7, 7, 7} {
		t.Errorf("the row has %v", dots)
	}
	if number, how := tile.Entry(v, 34, 0, 0); number != 255 || how != 0 {
		t.Errorf("the entry has %d and %d", number, how)
	}
}

func TestAnswersHangOnNothingElse(t *testing.T) {
	type answer struct {
		at      byte
		row     [8]byte
		turned  [8]byte
		number  int
		how     byte
		columns [2]int
	}
	ask := func(v []byte, n int) answer {
		a := answer{at: tile.At(v, n), row: tile.Row(v, n, n, false), turned: tile.Row(v, n, n, true)}
		a.number, a.how = tile.Entry(v, n, 1, 2)
		a.columns[0], _ = tile.Entry(v, 0, n, 0)
		a.columns[1], _ = tile.Entry(v, 0, 0, n)
		return a
	}
	v := memory(vramSize)
	numbers := append(near(), far...)
	first := map[int]answer{}
	for _, n := range numbers {
		first[n] = ask(v, n)
	}
	empty := make([]byte, vramSize)
	for range 3 {
		for i := len(numbers) - 1; i >= 0; i-- {
			if ask(slices.Clone(v), numbers[i]) != first[numbers[i]] {
				t.Fatalf("%d is told another way later", numbers[i])
			}
			if ask(empty, numbers[i]) != (answer{}) {
				t.Fatalf("%d is told of another memory", numbers[i])
			}
		}
	}
	clear(v)
	for _, n := range numbers {
		if ask(v, n) != (answer{}) {
			t.Fatalf("%d is told as the memory was, not as it is", n)
		}
	}
}
