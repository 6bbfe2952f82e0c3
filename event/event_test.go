package event_test

import (
	"math"
	"slices"
	"testing"

	"joystick/api"
	"joystick/event"
)

// The chapter's numbers, written out, so that a wrong one in the package isn't followed.
const (
	lines    = 262
	lastLine = 192
)

// edges are counts and reloads at which what is told changes, some beside them, and some between.
var edges = []byte{0, 1, 2, 3, 7, 9, 63, 64, 127, 128, 190, 191, 192, 193, 194, 200, 254, 255}

// far are numbers far from any line.
var far = []int{
	math.MinInt, math.MinInt + 1, math.MinInt + 192, math.MinInt + 261, math.MinInt / 2, -1 << 40, -1<<32 + 5, -1<<32 + 192, -1 << 32, math.MinInt32, math.MinInt32 - 1, math.MinInt32 + 1, -65536, -65535, -1024, -512, -263, -262, -261, -256, -255, -193, -192, -70,
	math.MaxInt, math.MaxInt - 1, math.MaxInt - 192, math.MaxInt - 261, math.MaxInt / 2, 1 << 40, 1<<32 + 5, 1<<32 + 192, 1<<32 + 261, 1 << 32, 1 << 31, math.MaxInt32, math.MaxInt32 - 1, 65535, 65536, 65536 + 192, 1024, 512, 524, 454, 448,
}

// noLines are numbers that no line has.
func noLines() []int {
	numbers := slices.Clone(far)
	for n := range 700 { // more than two frames, and two bytes, hold
		numbers = append(numbers, -1-n, lines+n)
	}
	return numbers
}

// events are all sixteen of what is true, with a Count.
func events(count byte) []api.Events {
	var all []api.Events
	for bits := range 16 {
		all = append(all, api.Events{Count: count, Line: bits&1 != 0, Frame: bits&2 != 0, Overflow: bits&4 != 0, Collision: bits&8 != 0})
	}
	return all
}

// started is what the chapter says of Start.
func started(e api.Events, line int, reload byte) api.Events {
	if line < 0 || line > 261 {
		return e
	}
	count := int(e.Count) - 1
	if line <= 192 && count < 0 {
		e.Line = true
	}
	if line > 192 || count < 0 {
		count = int(reload)
	}
	e.Count = byte(count)
	if line == 192 {
		e.Frame = true
	}
	return e
}

// waited calls Start so many times as Wait is to say; of two frames, as the second one begins as each one behind it.
func waited(e api.Events, line int, reload byte) int {
	if line < 0 || line > 261 {
		return 0
	}
	for n := 1; n <= 2*lines; n++ {
		next := event.Start(e, line, reload)
		if next.Line && !e.Line || next.Frame && !e.Frame {
			return n
		}
		e = next
		line++
		if line == 262 {
			line = 0
		}
	}
	return 0
}

// holdWait holds Wait against Start called so many times.
func holdWait(t *testing.T, e api.Events, line int, reload byte) {
	t.Helper()
	if got, want := event.Wait(e, line, reload), waited(e, line, reload); got != want {
		t.Fatalf("%+v, line %d, reload %d: %d instead of %d", e, line, reload, got, want)
	}
}

// waits are the four of Line and Frame, with a Count.
func waits(count byte) []api.Events {
	return []api.Events{{Count: count}, {Count: count, Line: true}, {Count: count, Frame: true}, {Count: count, Line: true, Frame: true}}
}

// The chapter's numbers

func TestNumbersOfAFrame(t *testing.T) {
	if api.Lines != lines || api.Shown != lastLine {
		t.Error("a frame has 262 lines; the line 192 is the first that isn't seen")
	}
}

func TestExample(t *testing.T) {
	e := api.Events{}
	for line := range lines {
		e = event.Start(e, line, 0)
		if e.Line != (line <= lastLine) {
			t.Errorf("with reload 0, the line %d tells Line: %t", line, e.Line)
		}
		e.Line = false
	}
}

// P15.1 Start

func TestStartByHand(t *testing.T) {
	for _, c := range []struct {
		e      api.Events
		line   int
		reload byte
		want   api.Events
	}{
		{api.Events{}, 0, 0, api.Events{Line: true}},
		{api.Events{}, 0, 9, api.Events{Count: 9, Line: true}},
		{api.Events{}, 191, 255, api.Events{Count: 255, Line: true}},
		{api.Events{Count: 1}, 0, 9, api.Events{}},
		{api.Events{Count: 1}, 100, 255, api.Events{}},
		{api.Events{Count: 255}, 191, 9, api.Events{Count: 254}},
		{api.Events{Count: 9, Line: true}, 5, 3, api.Events{Count: 8, Line: true}},
		{api.Events{Line: true}, 5, 3, api.Events{Count: 3, Line: true}},
		{api.Events{Frame: true}, 5, 3, api.Events{Count: 3, Line: true, Frame: true}},
		{api.Events{Count: 2, Frame: true, Overflow: true, Collision: true}, 5, 3, api.Events{Count: 1, Frame: true, Overflow: true, Collision: true}},
		{api.Events{}, 192, 9, api.Events{Count: 9, Line: true, Frame: true}},
		{api.Events{Count: 4}, 192, 9, api.Events{Count: 3, Frame: true}},
		{api.Events{Count: 4, Line: true, Frame: true}, 192, 9, api.Events{Count: 3, Line: true, Frame: true}},
		{api.Events{}, 193, 9, api.Events{Count: 9}},
		{api.Events{}, 193, 0, api.Events{}},
		{api.Events{Count: 4}, 193, 0, api.Events{}},
		{api.Events{Count: 4, Line: true}, 261, 255, api.Events{Count: 255, Line: true}},
		{api.Events{Count: 4, Frame: true}, 261, 9, api.Events{Count: 9, Frame: true}},
		{api.Events{}, 261, 9, api.Events{Count: 9}},
		{api.Events{}, 262, 9, api.Events{}},
		{api.Events{Count: 4, Line: true}, 262, 9, api.Events{Count: 4, Line: true}},
		{api.Events{}, -1, 9, api.Events{}},
		{api.Events{Count: 4, Collision: true}, -70, 9, api.Events{Count: 4, Collision: true}},
	} {
		if got := event.Start(c.e, c.line, c.reload); got != c.want {
			t.Errorf("%+v, line %d, reload %d: %+v instead of %+v", c.e, c.line, c.reload, got, c.want)
		}
	}
}

func TestStartOfEachLine(t *testing.T) {
	for line := range lines {
		for count := range 256 {
			for _, e := range events(byte(count)) {
				for _, reload := range edges {
					if got, want := event.Start(e, line, reload), started(e, line, reload); got != want {
						t.Fatalf("%+v, line %d, reload %d: %+v instead of %+v", e, line, reload, got, want)
					}
				}
			}
		}
	}
}

func TestStartWithEachReload(t *testing.T) {
	for _, line := range []int{0, 1, 100, 190, 191, 192, 193, 194, 260, 261} {
		for reload := range 256 {
			for _, count := range edges {
				e := api.Events{Count: count}
				if got, want := event.Start(e, line, byte(reload)), started(e, line, byte(reload)); got != want {
					t.Fatalf("%+v, line %d, reload %d: %+v instead of %+v", e, line, reload, got, want)
				}
			}
		}
	}
}

func TestStartOfNoLine(t *testing.T) {
	for _, line := range noLines() {
		for _, count := range edges {
			for _, e := range events(count) {
				for _, reload := range []byte{0, 9, 255} {
					if got := event.Start(e, line, reload); got != e {
						t.Fatalf("%+v, line %d, reload %d: %+v", e, line, reload, got)
					}
				}
			}
		}
	}
}

func TestStartThroughFrames(t *testing.T) {
	for reload := range 256 {
		e := api.Events{Count: byte(reload)}
		for frame := range 3 {
			for line := range lines {
				e = event.Start(e, line, byte(reload))
				tells := line <= 192 && (line+1)%(reload+1) == 0
				if e.Line != tells || e.Frame != (line == 192) {
					t.Fatalf("reload %d, line %d of the frame %d: %+v", reload, line, frame, e)
				}
				e.Line, e.Frame = false, false
			}
			if e.Count != byte(reload) {
				t.Fatalf("reload %d: behind a frame the Count is %d", reload, e.Count)
			}
		}
	}
}

// P15.1 Drawn

func TestDrawnOfEachPair(t *testing.T) {
	for _, count := range edges {
		for _, e := range events(count) {
			for _, told := range []struct{ overflow, collision bool }{{false, false}, {false, true}, {true, false}, {true, true}} {
				want := e
				if told.overflow {
					want.Overflow = true
				}
				if told.collision {
					want.Collision = true
				}
				if got := event.Drawn(e, told.overflow, told.collision); got != want {
					t.Errorf("%+v, %+v: %+v", e, told, got)
				}
			}
		}
	}
}

func TestDrawnByHand(t *testing.T) {
	if got := event.Drawn(api.Events{Count: 3}, true, false); got != (api.Events{Count: 3, Overflow: true}) {
		t.Error("Overflow", got)
	}
	if got := event.Drawn(api.Events{Count: 3}, false, true); got != (api.Events{Count: 3, Collision: true}) {
		t.Error("Collision", got)
	}
	if got := event.Drawn(api.Events{Overflow: true, Collision: true}, false, false); got != (api.Events{Overflow: true, Collision: true}) {
		t.Error("what is true stays", got)
	}
}

// P15.2 Asks

func TestAsksOfEachBit(t *testing.T) {
	for bit := range 8 {
		alone := byte(1) << bit
		for _, others := range []byte{0, 255} {
			for _, c := range []struct {
				e         api.Events
				zero, one byte
				want      bool
			}{
				{api.Events{Line: true}, alone, others, bit == 4},
				{api.Events{Line: true}, ^alone, others, bit != 4},
				{api.Events{Frame: true}, others, alone, bit == 5},
				{api.Events{Frame: true}, others, ^alone, bit != 5},
				{api.Events{Line: true, Frame: true}, alone, 0, bit == 4},
				{api.Events{Line: true, Frame: true}, 0, alone, bit == 5},
				{api.Events{Line: true, Frame: true}, ^alone, ^byte(32), bit != 4},
				{api.Events{Line: true, Frame: true}, ^byte(16), ^alone, bit != 5},
				{api.Events{Count: 9, Overflow: true, Collision: true}, alone, alone, false},
				{api.Events{Overflow: true, Collision: true}, 255, 255, false},
			} {
				if got := event.Asks(c.e, c.zero, c.one); got != c.want {
					t.Errorf("%+v, zero %d, one %d: %t", c.e, c.zero, c.one, got)
				}
			}
		}
	}
}

func TestAsksOfAnyTwoBytes(t *testing.T) {
	for _, count := range []byte{0, 1, 255} {
		for _, e := range events(count) {
			for zero := range 256 {
				for one := range 256 {
					want := false
					if e.Frame && one/32%2 == 1 {
						want = true
					}
					if e.Line && zero/16%2 == 1 {
						want = true
					}
					if got := event.Asks(e, byte(zero), byte(one)); got != want {
						t.Fatalf("%+v, zero %d, one %d: %t", e, zero, one, got)
					}
				}
			}
		}
	}
}

// P15.2 Status

func TestStatusOfAllSixteen(t *testing.T) {
	for count := range 256 {
		for _, e := range events(byte(count)) {
			want := 31
			if e.Frame {
				want += 128
			}
			if e.Overflow {
				want += 64
			}
			if e.Collision {
				want += 32
			}
			got, left := event.Status(e)
			if int(got) != want || left != (api.Events{Count: byte(count)}) {
				t.Errorf("%+v: %d and %+v instead of %d", e, got, left, want)
			}
		}
	}
}

func TestStatusByHand(t *testing.T) {
	for _, c := range []struct {
		e    api.Events
		want byte
	}{
		{api.Events{}, 31}, {api.Events{Count: 255}, 31}, {api.Events{Line: true}, 31},
		{api.Events{Frame: true}, 159}, {api.Events{Overflow: true}, 95}, {api.Events{Collision: true}, 63},
		{api.Events{Frame: true, Overflow: true}, 223}, {api.Events{Overflow: true, Collision: true}, 127}, {api.Events{Frame: true, Collision: true}, 191},
		{api.Events{Count: 7, Line: true, Frame: true, Overflow: true, Collision: true}, 255},
	} {
		got, left := event.Status(c.e)
		if got != c.want || left != (api.Events{Count: c.e.Count}) {
			t.Errorf("%+v: %d and %+v instead of %d", c.e, got, left, c.want)
		}
		if again, _ := event.Status(left); again != 31 {
			t.Errorf("%+v: then %d", c.e, again)
		}
	}
}

func TestStatusEndsTheAsking(t *testing.T) {
	_, e := event.Status(api.Events{Count: 7, Line: true, Frame: true, Overflow: true, Collision: true})
	if event.Asks(e, 255, 255) {
		t.Error("what was told is asked still")
	}
}

// P15.3

func TestWaitByHand(t *testing.T) {
	for _, c := range []struct {
		e      api.Events
		line   int
		reload byte
		want   int
	}{
		{api.Events{}, 0, 0, 1}, {api.Events{}, 0, 255, 1}, {api.Events{}, 192, 255, 1}, {api.Events{}, 193, 0, 70}, {api.Events{}, 261, 0, 2},
		{api.Events{Count: 1}, 0, 0, 2}, {api.Events{Count: 192}, 0, 0, 193}, {api.Events{Count: 193}, 0, 0, 193}, {api.Events{Count: 255}, 100, 255, 93},
		{api.Events{}, 193, 191, 261}, {api.Events{}, 193, 192, 262}, {api.Events{}, 193, 193, 262}, {api.Events{}, 261, 255, 194},
		{api.Events{Line: true}, 0, 0, 193}, {api.Events{Line: true}, 191, 0, 2}, {api.Events{Line: true}, 192, 0, 1}, {api.Events{Line: true}, 193, 0, 262}, {api.Events{Line: true}, 261, 0, 194},
		{api.Events{Frame: true}, 0, 0, 1}, {api.Events{Count: 192, Frame: true}, 0, 255, 193}, {api.Events{Count: 193, Frame: true}, 0, 192, 455}, {api.Events{Count: 193, Frame: true}, 0, 193, 0},
		{api.Events{Count: 1, Frame: true}, 191, 255, 2}, {api.Events{Count: 1, Frame: true}, 192, 255, 0}, {api.Events{Count: 1, Frame: true}, 192, 0, 71}, {api.Events{Count: 255, Frame: true}, 0, 0, 263},
		{api.Events{Frame: true}, 193, 192, 262}, {api.Events{Frame: true}, 193, 193, 0}, {api.Events{Frame: true}, 261, 0, 2}, {api.Events{Frame: true}, 261, 255, 0},
		{api.Events{Line: true, Frame: true}, 0, 0, 0}, {api.Events{Line: true, Frame: true}, 192, 0, 0}, {api.Events{Line: true, Frame: true}, 193, 0, 0},
		{api.Events{}, 262, 0, 0}, {api.Events{}, -1, 0, 0}, {api.Events{}, -70, 0, 0}, {api.Events{}, 454, 0, 0},
	} {
		if got := event.Wait(c.e, c.line, c.reload); got != c.want {
			t.Errorf("%+v, line %d, reload %d: %d instead of %d", c.e, c.line, c.reload, got, c.want)
		}
	}
}

func TestWaitOfEachLineAndCount(t *testing.T) {
	for line := range lines {
		for count := range 256 {
			for _, e := range waits(byte(count)) {
				for _, reload := range []byte{0, 192, 193} {
					holdWait(t, e, line, reload)
				}
			}
		}
	}
}

func TestWaitOfEachLineAndReload(t *testing.T) {
	for line := range lines {
		for reload := range 256 {
			for _, count := range []byte{0, 9, 193} {
				for _, e := range waits(count) {
					holdWait(t, e, line, byte(reload))
				}
			}
		}
	}
}

func TestWaitAtTheEdges(t *testing.T) {
	for line := range lines {
		last := max(lastLine-line, 0) // the Count that comes to nothing in the last line
		for near := max(last-2, 0); near <= last+2; near++ {
			for _, e := range waits(byte(near)) {
				for _, reload := range edges {
					holdWait(t, e, line, reload)
				}
			}
		}
	}
}

func TestWaitIsNothingToWhatWasDrawn(t *testing.T) {
	for _, line := range []int{0, 100, 191, 192, 193, 261} {
		for _, count := range edges {
			for _, e := range events(count) {
				for _, reload := range edges {
					holdWait(t, e, line, reload)
				}
			}
		}
	}
}

func TestWaitOfNoLine(t *testing.T) {
	for _, line := range noLines() {
		for _, count := range edges {
			for _, e := range waits(count) {
				for _, reload := range []byte{0, 9, 255} {
					if got := event.Wait(e, line, reload); got != 0 {
						t.Fatalf("%+v, line %d, reload %d: %d", e, line, reload, got)
					}
				}
			}
		}
	}
}

func TestWaitThatNeverEnds(t *testing.T) {
	never := 0
	for line := range lines {
		for _, e := range []api.Events{{Count: 255, Frame: true}, {Count: 255, Line: true, Frame: true}} {
			for _, reload := range edges {
				if event.Wait(e, line, reload) != 0 {
					continue
				}
				never++
				now := e
				for n := range 6 * lines {
					now = event.Start(now, (line+n)%lines, reload)
				}
				if now.Line != e.Line || now.Frame != e.Frame {
					t.Fatalf("%+v, line %d, reload %d: something is new in six frames", e, line, reload)
				}
			}
		}
	}
	if want := lines * (5 + len(edges)); never != want { // reloads from 193 on, or any
		t.Errorf("%d of these never end, instead of %d", never, want)
	}
}

// P1, P2

func TestAnswersHangOnNothingElse(t *testing.T) {
	type asked struct {
		e      api.Events
		line   int
		reload byte
	}
	type answer struct {
		start, status, drawn api.Events
		told                 byte
		asks                 bool
		wait                 int
	}
	ask := func(q asked) answer {
		told, status := event.Status(q.e)
		return answer{event.Start(q.e, q.line, q.reload), status, event.Drawn(q.e, q.line%2 == 0, q.reload%2 == 0), told, event.Asks(q.e, q.reload, ^q.reload), event.Wait(q.e, q.line, q.reload)}
	}
	var all []asked
	for _, line := range append([]int{-1, 0, 1, 191, 192, 193, 261, 262}, far...) {
		for _, count := range []byte{0, 1, 192, 255} {
			for _, e := range events(count) {
				for _, reload := range []byte{0, 48, 193, 255} {
					all = append(all, asked{e, line, reload})
				}
			}
		}
	}
	first := map[asked]answer{}
	for _, q := range all {
		first[q] = ask(q)
	}
	for _, q := range slices.Backward(all) {
		if ask(q) != first[q] {
			t.Fatalf("%+v is answered another way later", q)
		}
	}
}
