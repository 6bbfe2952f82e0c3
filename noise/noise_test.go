package noise_test

import (
	"math"
	"testing"

	"joystick/api"
	"joystick/noise"
)

// wrongCounts are Counts of noises that aren't RIGHT.
var wrongCounts = []int{-1, -2, -64, -65, 65, 66, 128, 256, 65536, 1 << 31, 1 << 32, 1<<32 + 5, math.MaxInt, math.MinInt, math.MinInt + 1}

// wrongModes are Modes of noises that aren't RIGHT.
var wrongModes = []byte{8, 9, 11, 12, 15, 16, 64, 127, 128, 132, 135, 248, 255}

// shifts are rows at which something else begins, and some between.
var shifts = []uint16{1, 2, 3, 4, 7, 8, 9, 10, 12, 15, 16, 0x1111, 0x5555, 0x7FFF, 0x8000, 0x8001, 0x8008, 0x8009, 0xAAAA, 0xFFF6, 0xFFF7, 0xFFFE, 0xFFFF}

// eachNoise goes through the RIGHT noises of these shifts.
func eachNoise(do func(api.Noise)) {
	for mode := range byte(8) {
		for count := range 65 {
			for _, shift := range shifts {
				do(api.Noise{Mode: mode, Count: count, Shift: shift})
				do(api.Noise{Mode: mode, Count: count, Shift: shift, Half: true})
			}
		}
	}
}

// bit tells one of a row's bits, from below.
func bit(shift uint16, place int) uint16 { return shift >> place % 2 }

// moveOf tells by the document's words what Move answers.
func moveOf(shift uint16, white bool) uint16 {
	top := bit(shift, 0)
	if white && bit(shift, 3) == 1 {
		top = 1 - top
	}
	return shift/2 + top*32768
}

// tickOf tells by the document's words what becomes of a noise that TICKS.
func tickOf(n api.Noise) api.Noise {
	if n.Half {
		return api.Noise{Mode: n.Mode, Count: n.Count, Shift: n.Shift}
	}
	return api.Noise{Mode: n.Mode, Count: n.Count, Half: true, Shift: moveOf(n.Shift, n.Mode >= 4)}
}

// stepOf tells by the document's words what Step answers of a RIGHT noise.
func stepOf(n api.Noise, turned bool) api.Noise {
	rate := n.Mode % 4
	switch {
	case rate == 3 && turned:
		return tickOf(n)
	case rate == 3:
		return n
	case n.Count > 1:
		n.Count = n.Count - 1
		return n
	}
	n.Count = [3]int{16, 32, 64}[rate]
	return tickOf(n)
}

// P4.1: Right

func TestRightOfAllThatCanBe(t *testing.T) {
	eachNoise(func(n api.Noise) {
		if !noise.Right(n) {
			t.Fatalf("%v isn't RIGHT", n)
		}
	})
}

func TestRightByMode(t *testing.T) {
	for mode := range 256 {
		n := api.Noise{Mode: byte(mode), Count: 16, Shift: 0x8000}
		if noise.Right(n) != (mode < 8) {
			t.Errorf("Mode %d: not %v", mode, mode < 8)
		}
	}
}

func TestRightByCount(t *testing.T) {
	for count := -300; count <= 300; count++ {
		n := api.Noise{Mode: 5, Count: count, Half: true, Shift: 1}
		want := count >= 0 && count < 65
		if noise.Right(n) != want {
			t.Errorf("Count %d: not %v", count, want)
		}
	}
	for _, count := range wrongCounts {
		if noise.Right(api.Noise{Count: count, Shift: 0x8000}) {
			t.Errorf("Count %d is RIGHT", count)
		}
	}
}

func TestRightByShift(t *testing.T) {
	for shift := range 65536 {
		n := api.Noise{Mode: 2, Count: 64, Shift: uint16(shift)}
		if noise.Right(n) != (shift > 0) {
			t.Errorf("Shift %d: not %v", shift, shift > 0)
		}
	}
}

func TestNotRightByMoreThanOne(t *testing.T) {
	for _, mode := range wrongModes {
		for _, count := range wrongCounts {
			for _, half := range []bool{false, true} {
				if noise.Right(api.Noise{Mode: mode, Count: count, Half: half}) || noise.Right(api.Noise{Mode: mode, Count: count, Half: half, Shift: 1}) {
					t.Errorf("Mode %d, Count %d is RIGHT", mode, count)
				}
			}
		}
	}
}

func TestTheZeroNoiseIsNotRight(t *testing.T) {
	if noise.Right(api.Noise{}) {
		t.Error("its Shift is 0")
	}
}

// P4.1: Set

func TestSetByHand(t *testing.T) {
	cases := []struct {
		n    api.Noise
		mode byte
		want api.Noise
	}{
		{api.Noise{}, 0, api.Noise{Shift: 32768}},
		{api.Noise{}, 7, api.Noise{Mode: 7, Shift: 32768}},
		{api.Noise{}, 8, api.Noise{Shift: 32768}},
		{api.Noise{}, 255, api.Noise{Mode: 7, Shift: 32768}},
		{api.Noise{Mode: 7, Count: 33, Half: true, Shift: 1}, 0, api.Noise{Count: 33, Half: true, Shift: 32768}},
		{api.Noise{Mode: 3, Count: 64, Shift: 0xFFFF}, 0xE4, api.Noise{Mode: 4, Count: 64, Shift: 32768}},
		{api.Noise{Mode: 5, Count: 1, Half: true, Shift: 32768}, 5, api.Noise{Mode: 5, Count: 1, Half: true, Shift: 32768}},
	}
	for i, c := range cases {
		if got := noise.Set(c.n, c.mode); got != c.want {
			t.Errorf("%d: Set(%v, %d) is %v", i, c.n, c.mode, got)
		}
	}
}

func TestSetTakesThreeBitsOfAnyByte(t *testing.T) {
	eachNoise(func(n api.Noise) {
		if n.Count%16 > 1 {
			return
		}
		for mode := range 256 {
			want := api.Noise{Mode: byte(mode % 8), Count: n.Count, Half: n.Half, Shift: 32768}
			got := noise.Set(n, byte(mode))
			if got != want {
				t.Fatalf("Set(%v, %d) is %v", n, mode, got)
			}
			if !noise.Right(got) {
				t.Fatalf("Set(%v, %d) isn't RIGHT", n, mode)
			}
		}
	})
}

func TestSetOfNoisesThatAreNotRight(t *testing.T) {
	for _, old := range wrongModes {
		for _, count := range append([]int{0, 64}, wrongCounts...) {
			for _, mode := range []byte{0, 3, 4, 7, 8, 0xE5, 255} {
				n := api.Noise{Mode: old, Count: count, Half: mode%2 == 0}
				want := api.Noise{Mode: mode % 8, Count: count, Half: n.Half, Shift: 32768}
				if got := noise.Set(n, mode); got != want {
					t.Errorf("Set(%v, %d) is %v", n, mode, got)
				}
			}
		}
	}
}

// P4.1: Out

func TestOutIsTheLowestBit(t *testing.T) {
	for shift := 1; shift < 65536; shift++ {
		for mode := range byte(8) {
			n := api.Noise{Mode: mode, Count: shift % 65, Half: shift/2%2 == 1, Shift: uint16(shift)}
			if noise.Out(n) != (shift%2 == 1) {
				t.Fatalf("Out(%v) isn't its lowest bit", n)
			}
		}
	}
}

// P4.2: Move

func TestMoveByHand(t *testing.T) {
	cases := []struct {
		shift uint16
		white bool
		want  uint16
	}{
		{0x8000, false, 0x4000}, {0x8000, true, 0x4000},
		{1, false, 0x8000}, {1, true, 0x8000},
		{8, false, 4}, {8, true, 0x8004},
		{9, false, 0x8004}, {9, true, 4},
		{2, false, 1}, {2, true, 1},
		{4, false, 2}, {4, true, 2},
		{16, false, 8}, {16, true, 8},
		{5, true, 0x8002}, {3, true, 0x8001},
		{0x8001, false, 0xC000}, {0x8001, true, 0xC000}, {0x8009, true, 0x4004},
		{0xFFFF, false, 0xFFFF}, {0xFFFF, true, 0x7FFF},
		{0xFFF7, true, 0xFFFB}, {0xFFFE, true, 0xFFFF}, {0xFFF6, true, 0x7FFB},
		{0, false, 0}, {0, true, 0},
	}
	for _, c := range cases {
		if got := noise.Move(c.shift, c.white); got != c.want {
			t.Errorf("Move(%x, %v) is %x, not %x", c.shift, c.white, got, c.want)
		}
	}
}

func TestMoveOfAllShifts(t *testing.T) {
	for k := range 65536 {
		shift := uint16(k)
		for _, white := range []bool{false, true} {
			if got := noise.Move(shift, white); got != moveOf(shift, white) {
				t.Fatalf("Move(%x, %v) is %x, not %x", shift, white, got, moveOf(shift, white))
			}
		}
	}
}

func TestNoTwoShiftsMoveToOne(t *testing.T) {
	for _, white := range []bool{false, true} {
		var seen [65536]bool
		for k := range 65536 {
			to := noise.Move(uint16(k), white)
			if seen[to] || (to == 0) != (k == 0) {
				t.Fatalf("Move(%x, %v) is %x", k, white, to)
			}
			seen[to] = true
		}
	}
}

// P4.3: Step

func TestStepByHand(t *testing.T) {
	cases := []struct {
		n      api.Noise
		turned bool
		want   api.Noise
	}{
		// it counts, turned or not
		{api.Noise{Mode: 0, Count: 64, Shift: 1}, true, api.Noise{Mode: 0, Count: 63, Shift: 1}},
		{api.Noise{Mode: 1, Count: 2, Shift: 1, Half: true}, false, api.Noise{Mode: 1, Count: 1, Shift: 1, Half: true}},
		{api.Noise{Mode: 6, Count: 2, Shift: 9}, true, api.Noise{Mode: 6, Count: 1, Shift: 9}},
		// it TICKS, and Half is true then
		{api.Noise{Mode: 0, Count: 1, Shift: 1}, false, api.Noise{Mode: 0, Count: 16, Half: true, Shift: 0x8000}},
		{api.Noise{Mode: 1, Count: 0, Shift: 8}, true, api.Noise{Mode: 1, Count: 32, Half: true, Shift: 4}},
		{api.Noise{Mode: 2, Count: 1, Shift: 9}, false, api.Noise{Mode: 2, Count: 64, Half: true, Shift: 0x8004}},
		{api.Noise{Mode: 4, Count: 0, Shift: 8}, false, api.Noise{Mode: 4, Count: 16, Half: true, Shift: 0x8004}},
		{api.Noise{Mode: 5, Count: 1, Shift: 9}, true, api.Noise{Mode: 5, Count: 32, Half: true, Shift: 4}},
		{api.Noise{Mode: 6, Count: 1, Shift: 1}, false, api.Noise{Mode: 6, Count: 64, Half: true, Shift: 0x8000}},
		// it TICKS, and Half is false then
		{api.Noise{Mode: 0, Count: 1, Half: true, Shift: 1}, false, api.Noise{Mode: 0, Count: 16, Shift: 1}},
		{api.Noise{Mode: 5, Count: 0, Half: true, Shift: 9}, true, api.Noise{Mode: 5, Count: 32, Shift: 9}},
		{api.Noise{Mode: 2, Count: 1, Half: true, Shift: 9}, true, api.Noise{Mode: 2, Count: 64, Shift: 9}},
		// the RATE 3 goes with the tone, and its Count stays
		{api.Noise{Mode: 3, Count: 1, Shift: 1}, false, api.Noise{Mode: 3, Count: 1, Shift: 1}},
		{api.Noise{Mode: 3, Count: 0, Half: true, Shift: 1}, false, api.Noise{Mode: 3, Count: 0, Half: true, Shift: 1}},
		{api.Noise{Mode: 3, Count: 64, Shift: 8}, true, api.Noise{Mode: 3, Count: 64, Half: true, Shift: 4}},
		{api.Noise{Mode: 7, Count: 1, Shift: 8}, true, api.Noise{Mode: 7, Count: 1, Half: true, Shift: 0x8004}},
		{api.Noise{Mode: 7, Count: 0, Half: true, Shift: 8}, true, api.Noise{Mode: 7, Count: 0, Shift: 8}},
		{api.Noise{Mode: 7, Count: 30, Shift: 8}, false, api.Noise{Mode: 7, Count: 30, Shift: 8}},
	}
	for i, c := range cases {
		if got := noise.Step(c.n, c.turned); got != c.want {
			t.Errorf("%d: Step(%v, %v) is %v, not %v", i, c.n, c.turned, got, c.want)
		}
	}
}

func TestStepOfRightNoises(t *testing.T) {
	eachNoise(func(n api.Noise) {
		for _, turned := range []bool{false, true} {
			got := noise.Step(n, turned)
			if got != stepOf(n, turned) {
				t.Fatalf("Step(%v, %v) is %v, not %v", n, turned, got, stepOf(n, turned))
			}
			if !noise.Right(got) {
				t.Fatalf("Step(%v, %v) isn't RIGHT: %v", n, turned, got)
			}
		}
	})
}

func TestStepOfEachShiftMovesIt(t *testing.T) {
	for shift := 1; shift < 65536; shift++ {
		for mode := range byte(8) {
			n := api.Noise{Mode: mode, Count: 1, Shift: uint16(shift)}
			if got := noise.Step(n, true); got != stepOf(n, true) {
				t.Fatalf("Step(%v, true) is %v, not %v", n, got, stepOf(n, true))
			}
		}
	}
}

func TestARateIsSoManyStepsATick(t *testing.T) {
	for mode := range byte(8) {
		rate := mode % 4
		if rate == 3 {
			continue
		}
		every := 16 << rate
		n := noise.Set(api.Noise{}, mode)
		for k := range 9*every + 1 {
			next := noise.Step(n, k%3 == 0)
			ticks := k%every == 0
			if (next.Half != n.Half) != ticks {
				t.Fatalf("Mode %d, step %d: %v, then %v", mode, k+1, n, next)
			}
			moves := k%(2*every) == 0
			if (next.Shift != n.Shift) != moves {
				t.Fatalf("Mode %d, step %d: %v, then %v", mode, k+1, n, next)
			}
			n = next
		}
	}
}

func TestTheRateThreeGoesWithTheTone(t *testing.T) {
	for _, mode := range []byte{3, 7} {
		n := api.Noise{Mode: mode, Count: 5, Shift: 0x8000}
		row, ticks := n.Shift, 0
		for k := range 500 {
			turned := k%7 < 3
			if turned {
				if ticks++; ticks%2 == 1 {
					row = moveOf(row, mode == 7)
				}
			}
			n = noise.Step(n, turned)
			want := api.Noise{Mode: mode, Count: 5, Half: ticks%2 == 1, Shift: row}
			if n != want {
				t.Fatalf("Mode %d, step %d: %v, not %v", mode, k+1, n, want)
			}
		}
	}
}

func TestACountOfAnotherRateGoesOn(t *testing.T) {
	n := noise.Step(noise.Set(api.Noise{}, 2), false)
	n = noise.Set(n, 0)
	for range 63 {
		n = noise.Step(n, true)
	}
	if n.Count != 1 || !n.Half || n.Shift != 0x8000 {
		t.Error("the Count of the old RATE isn't gone through:", n)
	}
	if n = noise.Step(n, true); n.Count != 16 || n.Half || n.Shift != 0x8000 {
		t.Error("not the Count of the new RATE:", n)
	}
}

func TestWhatIsHeardOfAModeNotWhite(t *testing.T) {
	n := noise.Set(api.Noise{}, 3)
	for k := range 200 {
		if n = noise.Step(n, true); !n.Half {
			n = noise.Step(n, true)
		}
		if moved := k + 1; noise.Out(n) != (moved%16 == 15) {
			t.Fatalf("behind %d Moves: %v", moved, n)
		}
	}
}

// P4.4: Period

func TestPeriodByHand(t *testing.T) {
	cases := []struct {
		white bool
		shift uint16
		want  int
	}{
		{false, 0, 0}, {true, 0, 0},
		{false, 0x8000, 16}, {false, 1, 16}, {false, 0x7FFF, 16}, {false, 0x1234, 16},
		{false, 0x0101, 8}, {false, 0x8080, 8}, {false, 0xFEFE, 8},
		{false, 0x1111, 4}, {false, 0x3333, 4}, {false, 0x7777, 4},
		{false, 0x5555, 2}, {false, 0xAAAA, 2}, {false, 0xFFFF, 1},
		{true, 0x8000, 57337}, {true, 1, 57337}, {true, 8, 57337},
	}
	for _, c := range cases {
		if got := noise.Period(c.white, c.shift); got != c.want {
			t.Errorf("Period(%v, %x) is %d, not %d", c.white, c.shift, got, c.want)
		}
	}
}

func TestPeriodOfAllShiftsThatAreNotWhite(t *testing.T) {
	for k := 1; k < 65536; k++ {
		shift := uint16(k)
		want := 1
		for shift>>want|shift<<(16-want) != shift {
			want++
		}
		if got := noise.Period(false, shift); got != want {
			t.Fatalf("Period(false, %x) is %d, not %d", shift, got, want)
		}
	}
}

// rounds answers, for each shift, how many WHITE ones go round with it, and how many rounds there are of each length.
func rounds() ([]int, map[int]int) {
	lengths, many := make([]int, 65536), map[int]int{}
	for k := 1; k < 65536; k++ {
		if lengths[k] > 0 {
			continue
		}
		round := []uint16{uint16(k)}
		for at := moveOf(uint16(k), true); at != uint16(k); at = moveOf(at, true) {
			round = append(round, at)
		}
		for _, at := range round {
			lengths[at] = len(round)
		}
		many[len(round)]++
	}
	return lengths, many
}

func TestPeriodOfWhiteShifts(t *testing.T) {
	lengths, many := rounds()
	// 2^3 - 1, 2^13 - 1, and both together: all rows but 0.
	if len(many) != 3 || many[7] != 1 || many[8191] != 1 || many[57337] != 1 {
		t.Fatal("not the rounds that there are:", many)
	}
	for k, want := range lengths {
		if want > 7 && k%101 > 0 {
			continue
		}
		if got := noise.Period(true, uint16(k)); got != want {
			t.Fatalf("Period(true, %x) is %d, not %d", k, got, want)
		}
	}
}

func TestPeriodIsTheFirstTimeAgain(t *testing.T) {
	for _, shift := range shifts {
		for _, white := range []bool{false, true} {
			period := noise.Period(white, shift)
			at := shift
			for k := 1; k <= 2*period; k++ {
				at = noise.Move(at, white)
				if (at == shift) != (k%period == 0) {
					t.Fatalf("Period(%v, %x) is %d, but behind %d Moves it is %x", white, shift, period, k, at)
				}
			}
		}
	}
}

// P1, P2 and the rules that hold everywhere

func TestEveryCallEndsAtAnyNoise(t *testing.T) {
	modes := append([]byte{0, 1, 2, 3, 4, 7}, wrongModes...)
	counts := append([]int{0, 1, 2, 16, 64}, wrongCounts...)
	for _, mode := range modes {
		for _, count := range counts {
			for _, shift := range append([]uint16{0}, shifts...) {
				for _, half := range []bool{false, true} {
					n := api.Noise{Mode: mode, Count: count, Half: half, Shift: shift}
					noise.Right(n)
					noise.Set(n, mode)
					noise.Step(n, false)
					noise.Step(n, true)
					noise.Out(n)
				}
			}
		}
	}
}

func TestANoiseIsAValueThatIsAnsweredAnew(t *testing.T) {
	eachNoise(func(n api.Noise) {
		kept := n
		one, two, set := noise.Step(n, false), noise.Step(n, true), noise.Set(n, 0xE6)
		right, out := noise.Right(n), noise.Out(n)
		if n != kept {
			t.Fatalf("%v was handed in, and is %v", kept, n)
		}
		if noise.Step(n, false) != one || noise.Step(n, true) != two || noise.Set(n, 0xE6) != set || noise.Right(n) != right || noise.Out(n) != out {
			t.Errorf("%v: asked again, another answer", n)
		}
	})
	for _, shift := range shifts {
		if noise.Period(true, shift) != noise.Period(true, shift) {
			t.Errorf("%x: asked again, another Period", shift)
		}
	}
}
