package dots_test

import (
	"math"
	"math/big"
	"math/rand"
	"slices"
	"testing"

	"joystick/api"
	"joystick/dots"
)

// The chapter's numbers, written out, so that a wrong one in the package isn't followed.
const (
	lines       = 262
	lineClocks  = 228
	frameClocks = 59736
	lineDots    = 342
)

// where is what is told of a clock.
type where struct{ line, dot, next int }

// wheres goes through a frame clock by clock, and tells what the chapter says of each one.
func wheres() []where {
	var all []where
	for line := range lines {
		halves := 0 // of dots: three a clock
		for left := lineClocks; left > 0; left-- {
			all = append(all, where{line, halves / 2, left})
			halves += 3
		}
	}
	return all
}

// placeOf tells a clock's place in its frame, by numbers of any size.
func placeOf(t int) int {
	place := new(big.Int).Mod(big.NewInt(int64(t)), big.NewInt(frameClocks)) // Mod is never below 0
	return int(place.Int64())
}

// told is what the package tells of a clock.
func told(t int) where { return where{dots.Line(t), dots.Dot(t), dots.Next(t)} }

// far are numbers far from any frame, line or dot.
var far = []int{
	math.MinInt, math.MinInt + 1, math.MinInt + 227, math.MinInt + 228, math.MinInt + frameClocks, math.MinInt / 2, math.MinInt / 3,
	math.MinInt32, math.MinInt32 - 1, math.MinInt32 + 1, -1 << 40, -1<<32 + 5, -1 << 32, -1 << 16, -65535, -1 << 8, -255,
	math.MaxInt, math.MaxInt - 1, math.MaxInt - 227, math.MaxInt - 228, math.MaxInt - frameClocks, math.MaxInt / 2, math.MaxInt / 3, math.MaxInt/3 + 1, math.MaxInt/2 + 1,
	math.MaxInt32, math.MaxInt32 + 1, 1 << 40, 1<<32 + 5, 1 << 32, 1<<32 + 261, 1<<32 + 341, 1 << 31, 1<<16 + 5, 65536, 65535,
}

// holdClock holds what is told of a clock against the chapter's words.
func holdClock(t *testing.T, all []where, clock int) {
	t.Helper()
	if got, want := told(clock), all[placeOf(clock)]; got != want {
		t.Errorf("clock %d: %+v instead of %+v", clock, got, want)
	}
}

// holdOutside holds what is answered of numbers below 0, and from many on, near and far.
func holdOutside(t *testing.T, many, want int, ask func(int) int) {
	t.Helper()
	numbers := slices.Clone(far)
	for n := range 70000 { // more than a byte, and two, hold
		numbers = append(numbers, -1-n, many+n, math.MinInt+n, math.MaxInt-n)
	}
	for _, n := range numbers {
		if got := ask(n); got != want {
			t.Fatalf("of %d there is told %d instead of %d", n, got, want)
		}
	}
}

// holdByHand holds what is answered of numbers against what is written out.
func holdByHand(t *testing.T, ask func(int) byte, want map[int]byte) {
	t.Helper()
	for n, v := range want {
		if got := ask(n); got != v {
			t.Errorf("of %d there is told %d instead of %d", n, got, v)
		}
	}
}

// The chapter's numbers

func TestNumbersOfAFrame(t *testing.T) {
	if api.Lines != lines || api.LineClocks != lineClocks || api.FrameClocks != frameClocks || len(wheres()) != frameClocks || lineClocks*3 != lineDots*2 {
		t.Error("a frame has 262 lines of 228 clocks, and of 342 dots")
	}
}

func TestExample(t *testing.T) {
	if dots.Line(228) != 1 || dots.Dot(228) != 0 {
		t.Error("the clock 228 is in the line 1, at the dot 0")
	}
}

// P14.1

func TestClocksByHand(t *testing.T) {
	for _, c := range []struct {
		clock int
		want  where
	}{
		{0, where{0, 0, 228}}, {1, where{0, 1, 227}}, {2, where{0, 3, 226}}, {3, where{0, 4, 225}}, {4, where{0, 6, 224}},
		{113, where{0, 169, 115}}, {114, where{0, 171, 114}}, {115, where{0, 172, 113}},
		{226, where{0, 339, 2}}, {227, where{0, 340, 1}}, {228, where{1, 0, 228}}, {229, where{1, 1, 227}}, {455, where{1, 340, 1}}, {456, where{2, 0, 228}},
		{228 * 192, where{192, 0, 228}}, {228*192 - 1, where{191, 340, 1}}, {228 * 261, where{261, 0, 228}}, {228*261 - 1, where{260, 340, 1}},
		{59734, where{261, 339, 2}}, {59735, where{261, 340, 1}},
		{59736, where{0, 0, 228}}, {59737, where{0, 1, 227}}, {59736 + 228, where{1, 0, 228}}, {2*59736 - 1, where{261, 340, 1}}, {2 * 59736, where{0, 0, 228}},
		{-1, where{261, 340, 1}}, {-2, where{261, 339, 2}}, {-3, where{261, 337, 3}}, {-227, where{261, 1, 227}}, {-228, where{261, 0, 228}}, {-229, where{260, 340, 1}},
		{-59735, where{0, 1, 227}}, {-59736, where{0, 0, 228}}, {-59737, where{261, 340, 1}}, {-2 * 59736, where{0, 0, 228}}, {-2*59736 - 1, where{261, 340, 1}},
		{math.MaxInt32, where{149, 316, 17}}, {math.MinInt32, where{112, 24, 212}},
		{math.MaxInt, where{176, 82, 173}}, {math.MinInt, where{85, 258, 56}},
	} {
		if got := told(c.clock); got != c.want {
			t.Errorf("clock %d: %+v instead of %+v", c.clock, got, c.want)
		}
	}
}

func TestEachClockOfAFrame(t *testing.T) {
	all := wheres()
	for clock, want := range all {
		if got := told(clock); got != want {
			t.Fatalf("clock %d: %+v instead of %+v", clock, got, want)
		}
	}
}

func TestEachClockOfFramesAheadAndBehind(t *testing.T) {
	all := wheres()
	for _, frame := range []int{-100000000000, -65536, -1000, -3, -2, -1, 1, 2, 3, 1000, 65536, 100000000000} {
		for clock, want := range all {
			if got := told(frame*frameClocks + clock); got != want {
				t.Fatalf("clock %d of the frame %d: %+v instead of %+v", clock, frame, got, want)
			}
		}
	}
}

func TestLeastAndGreatestClocks(t *testing.T) {
	all := wheres()
	for n := range 2 * frameClocks {
		holdClock(t, all, math.MinInt+n)
		holdClock(t, all, math.MaxInt-n)
		if t.Failed() {
			return
		}
	}
}

func TestClocksFarAndWide(t *testing.T) {
	all := wheres()
	for _, clock := range far {
		for near := -3; near <= 3; near++ {
			holdClock(t, all, clock+near) // beyond the greatest int comes the least one
		}
	}
	dice := rand.New(rand.NewSource(14))
	for range 200000 {
		holdClock(t, all, int(dice.Uint64()))
	}
}

func TestNextBringsToTheNextLine(t *testing.T) {
	for clock := -2 * frameClocks; clock <= 2*frameClocks; clock++ {
		next := dots.Next(clock)
		if next < 1 || next > lineClocks || dots.Dot(clock+next) != 0 || dots.Line(clock+next) != (dots.Line(clock)+1)%lines || dots.Line(clock+next-1) != dots.Line(clock) {
			t.Fatalf("clock %d: behind %d clocks no line begins first", clock, next)
		}
	}
}

func TestStartOfEachLine(t *testing.T) {
	for line, clock := 0, 0; line < lines; line, clock = line+1, clock+lineClocks {
		if got := dots.Start(line); got != clock {
			t.Errorf("line %d begins at %d instead of %d", line, got, clock)
		}
		if here := told(clock); here.line != line || here.dot != 0 {
			t.Errorf("clock %d is %+v, not the beginning of the line %d", clock, here, line)
		}
	}
	if dots.Start(0) != 0 || dots.Start(1) != 228 || dots.Start(261) != 59508 {
		t.Error("the lines 0, 1 and 261 begin at 0, 228 and 59508")
	}
}

func TestStartOfNoLine(t *testing.T) {
	holdOutside(t, lines, -1, dots.Start)
}

// P14.2

func TestVOfEachLine(t *testing.T) {
	for line := range lines {
		want := byte(line)
		if line > 218 {
			want = byte(line - 6)
		}
		if got := dots.V(line); got != want {
			t.Errorf("V of %d is %d instead of %d", line, got, want)
		}
	}
}

func TestVByHand(t *testing.T) {
	holdByHand(t, dots.V, map[int]byte{0: 0, 1: 1, 191: 191, 192: 192, 212: 212, 213: 213, 217: 217, 218: 218, 219: 213, 220: 214, 224: 218, 225: 219, 255: 249, 256: 250, 260: 254, 261: 255})
}

func TestVOfNoLine(t *testing.T) {
	holdOutside(t, lines, 0, func(line int) int { return int(dots.V(line)) })
}

func TestHOfEachDot(t *testing.T) {
	for half := range lineDots / 2 {
		want := byte(half)
		if half > 147 {
			want = byte(half + 85)
		}
		for dot := 2 * half; dot <= 2*half+1; dot++ {
			if got := dots.H(dot); got != want {
				t.Errorf("H of %d is %d instead of %d", dot, got, want)
			}
		}
	}
}

func TestHByHand(t *testing.T) {
	holdByHand(t, dots.H, map[int]byte{0: 0, 1: 0, 2: 1, 3: 1, 254: 127, 255: 127, 256: 128, 293: 146, 294: 147, 295: 147, 296: 233, 297: 233, 298: 234, 339: 254, 340: 255, 341: 255})
}

func TestHOfNoDot(t *testing.T) {
	holdOutside(t, lineDots, 0, func(dot int) int { return int(dots.H(dot)) })
}

// P1, P2

func TestAnswersHangOnNothingElse(t *testing.T) {
	numbers := append([]int{-228, -1, 0, 1, 218, 219, 227, 228, 261, 262, 295, 296, 341, 342, 59735, 59736}, far...)
	type answer struct {
		at    where
		start int
		v, h  byte
	}
	ask := func(n int) answer { return answer{told(n), dots.Start(n), dots.V(n), dots.H(n)} }
	first := map[int]answer{}
	for _, n := range numbers {
		first[n] = ask(n)
	}
	for range 3 {
		for i := len(numbers) - 1; i >= 0; i-- {
			if ask(numbers[i]) != first[numbers[i]] {
				t.Errorf("%d is told another way later", numbers[i])
			}
		}
	}
}
