package tone_test

import (
	"math"
	"testing"

	"joystick/api"
	"joystick/tone"
)

// edgePeriods and edgeCounts are numbers of RIGHT tones at which something else begins, and those beside them.
var (
	edgePeriods = []int{0, 1, 2, 3, 4, 5, 7, 255, 256, 511, 1022, 1023}
	edgeCounts  = []int{0, 1, 2, 3, 4, 6, 8, 255, 500, 1022, 1023}
)

// wrong are numbers of tones that aren't RIGHT.
var wrong = []int{-1, -2, -1023, -1024, 1024, 1025, 4096, 65536, 1 << 31, 1 << 32, 1<<32 + 5, math.MaxInt, math.MinInt, math.MinInt + 1}

// eachEdge goes through the RIGHT tones of the edges.
func eachEdge(do func(api.Tone)) {
	for _, period := range edgePeriods {
		for _, count := range edgeCounts {
			do(api.Tone{Period: period, Count: count})
			do(api.Tone{Period: period, Count: count, Out: true})
		}
	}
}

// eachRight goes through all RIGHT tones.
func eachRight(do func(api.Tone)) {
	for period := range 1024 {
		for count := range 1024 {
			do(api.Tone{Period: period, Count: count})
			do(api.Tone{Period: period, Count: count, Out: true})
		}
	}
}

// stepOf tells by the document's words what Step answers.
func stepOf(t api.Tone) (api.Tone, bool) {
	switch {
	case t.Count > 1:
		return api.Tone{Period: t.Period, Count: t.Count - 1, Out: t.Out}, false
	case t.Period == 0:
		return api.Tone{Period: 0, Count: 1, Out: true}, false
	case t.Period == 1:
		return api.Tone{Period: 1, Count: 1, Out: true}, false
	}
	return api.Tone{Period: t.Period, Count: t.Period, Out: !t.Out}, true
}

// runOf goes through the steps one by one.
func runOf(t api.Tone, steps int) (api.Tone, int) {
	many := 0
	for range max(steps, 0) {
		next, turned := stepOf(t)
		if t = next; turned {
			many++
		}
	}
	return t, many
}

// P3.1: Right

func TestRightFromNothingTo1023(t *testing.T) {
	for _, n := range []int{0, 1, 2, 500, 1022, 1023} {
		for _, m := range []int{0, 1, 2, 500, 1022, 1023} {
			for _, out := range []bool{false, true} {
				if !tone.Right(api.Tone{Period: n, Count: m, Out: out}) {
					t.Errorf("Period %d, Count %d, Out %v isn't RIGHT", n, m, out)
				}
			}
		}
	}
}

func TestNotRightBeyond(t *testing.T) {
	for _, bad := range wrong {
		for _, good := range []int{0, 1, 2, 500, 1023} {
			if tone.Right(api.Tone{Period: bad, Count: good}) {
				t.Errorf("Period %d, Count %d is RIGHT", bad, good)
			}
			if tone.Right(api.Tone{Period: good, Count: bad, Out: true}) {
				t.Errorf("Period %d, Count %d is RIGHT", good, bad)
			}
		}
		for _, other := range wrong {
			if tone.Right(api.Tone{Period: bad, Count: other}) {
				t.Errorf("Period %d, Count %d is RIGHT", bad, other)
			}
		}
	}
}

func TestRightOfAllBesideTheEdges(t *testing.T) {
	for period := -3; period <= 1027; period++ {
		for count := -3; count <= 1027; count++ {
			want := period >= 0 && period < 1024 && count >= 0 && count < 1024
			if tone.Right(api.Tone{Period: period, Count: count}) != want {
				t.Fatalf("Period %d, Count %d: not %v", period, count, want)
			}
		}
	}
}

// P3.1: Step

func TestStepByHand(t *testing.T) {
	cases := []struct {
		x, want api.Tone
		turned  bool
	}{
		{api.Tone{Period: 5, Count: 1023}, api.Tone{Period: 5, Count: 1022}, false},
		{api.Tone{Period: 5, Count: 3, Out: true}, api.Tone{Period: 5, Count: 2, Out: true}, false},
		{api.Tone{Period: 5, Count: 2}, api.Tone{Period: 5, Count: 1}, false},
		{api.Tone{Period: 5, Count: 1}, api.Tone{Period: 5, Count: 5, Out: true}, true},
		{api.Tone{Period: 5, Count: 1, Out: true}, api.Tone{Period: 5, Count: 5}, true},
		{api.Tone{Period: 5, Count: 0}, api.Tone{Period: 5, Count: 5, Out: true}, true},
		{api.Tone{Period: 1023, Count: 0, Out: true}, api.Tone{Period: 1023, Count: 1023}, true},
		{api.Tone{Period: 2, Count: 1}, api.Tone{Period: 2, Count: 2, Out: true}, true},
		{api.Tone{Period: 2, Count: 2}, api.Tone{Period: 2, Count: 1}, false},
		{api.Tone{Period: 1, Count: 1}, api.Tone{Period: 1, Count: 1, Out: true}, false},
		{api.Tone{Period: 1, Count: 0}, api.Tone{Period: 1, Count: 1, Out: true}, false},
		{api.Tone{Period: 1, Count: 1, Out: true}, api.Tone{Period: 1, Count: 1, Out: true}, false},
		{api.Tone{Period: 1, Count: 2}, api.Tone{Period: 1, Count: 1}, false},
		{api.Tone{Period: 0, Count: 0}, api.Tone{Period: 0, Count: 1, Out: true}, false},
		{api.Tone{Period: 0, Count: 1}, api.Tone{Period: 0, Count: 1, Out: true}, false},
		{api.Tone{Period: 0, Count: 1, Out: true}, api.Tone{Period: 0, Count: 1, Out: true}, false},
		{api.Tone{Period: 0, Count: 2}, api.Tone{Period: 0, Count: 1}, false},
	}
	for i, c := range cases {
		if x, turned := tone.Step(c.x); x != c.want || turned != c.turned {
			t.Errorf("%d: Step(%v) is %v, %v", i, c.x, x, turned)
		}
	}
}

func TestStepOfAllRightTones(t *testing.T) {
	eachRight(func(x api.Tone) {
		got, turned := tone.Step(x)
		want, should := stepOf(x)
		if got != want || turned != should {
			t.Fatalf("Step(%v) is %v, %v, not %v, %v", x, got, turned, want, should)
		}
		if !tone.Right(got) {
			t.Fatalf("Step(%v) isn't RIGHT: %v", x, got)
		}
	})
}

func TestTheExampleOfPeriodTwo(t *testing.T) {
	x := api.Tone{Period: 2, Count: 1}
	for k := range 20 {
		next, turned := tone.Step(x)
		if turned != (k%2 == 0) || turned != (next.Out != x.Out) {
			t.Errorf("step %d: %v, %v", k+1, next, turned)
		}
		x = next
	}
}

func TestAPeriodIsSoManySteps(t *testing.T) {
	for _, period := range []int{2, 3, 10, 1023} {
		x := api.Tone{Period: period}
		last := 1 - period
		for k := 1; k <= 5*period; k++ {
			next, turned := tone.Step(x)
			if x = next; !turned {
				continue
			}
			if k-last != period {
				t.Errorf("Period %d: turned about %d steps behind the last time", period, k-last)
			}
			last = k
		}
		if last != 4*period+1 {
			t.Errorf("Period %d: last turned about at step %d", period, last)
		}
	}
}

func TestAPeriodIsTakenWhenTheCountBeginsAnew(t *testing.T) {
	x, _ := tone.Run(api.Tone{Period: 10, Count: 1}, 3)
	x.Period = 4
	if x.Count != 8 || tone.Until(x) != 8 {
		t.Error("not the Count of the old Period:", x)
	}
	x, many := tone.Run(x, 8)
	if many != 1 || x.Count != 4 || tone.Until(x) != 4 {
		t.Error("not the Count of the new Period:", x, many)
	}
}

// P3.2: Run

func TestRunByHand(t *testing.T) {
	cases := []struct {
		x     api.Tone
		steps int
		want  api.Tone
		many  int
	}{
		{api.Tone{Period: 2, Count: 1}, 1, api.Tone{Period: 2, Count: 2, Out: true}, 1},
		{api.Tone{Period: 2, Count: 1}, 2, api.Tone{Period: 2, Count: 1, Out: true}, 1},
		{api.Tone{Period: 2, Count: 1}, 3, api.Tone{Period: 2, Count: 2}, 2},
		{api.Tone{Period: 5, Count: 5}, 4, api.Tone{Period: 5, Count: 1}, 0},
		{api.Tone{Period: 5, Count: 5}, 5, api.Tone{Period: 5, Count: 5, Out: true}, 1},
		{api.Tone{Period: 5, Count: 9, Out: true}, 8, api.Tone{Period: 5, Count: 1, Out: true}, 0},
		{api.Tone{Period: 5, Count: 9, Out: true}, 9, api.Tone{Period: 5, Count: 5}, 1},
		{api.Tone{Period: 5, Count: 9, Out: true}, 13, api.Tone{Period: 5, Count: 1}, 1},
		{api.Tone{Period: 5, Count: 9, Out: true}, 14, api.Tone{Period: 5, Count: 5, Out: true}, 2},
		{api.Tone{Period: 5, Count: 0}, 1, api.Tone{Period: 5, Count: 5, Out: true}, 1},
		{api.Tone{Period: 5, Count: 0}, 11, api.Tone{Period: 5, Count: 5, Out: true}, 3},
		{api.Tone{Period: 1023, Count: 1023}, 1023 * 1000, api.Tone{Period: 1023, Count: 1023}, 1000},
		{api.Tone{Period: 1, Count: 3}, 2, api.Tone{Period: 1, Count: 1}, 0},
		{api.Tone{Period: 1, Count: 3}, 3, api.Tone{Period: 1, Count: 1, Out: true}, 0},
		{api.Tone{Period: 0, Count: 0}, 1, api.Tone{Period: 0, Count: 1, Out: true}, 0},
		{api.Tone{Period: 0, Count: 3}, 2, api.Tone{Period: 0, Count: 1}, 0},
		{api.Tone{Period: 0, Count: 3}, 1000, api.Tone{Period: 0, Count: 1, Out: true}, 0},
	}
	for i, c := range cases {
		if x, many := tone.Run(c.x, c.steps); x != c.want || many != c.many {
			t.Errorf("%d: Run(%v, %d) is %v, %d", i, c.x, c.steps, x, many)
		}
	}
}

func TestRunOfNoStepsIsNothing(t *testing.T) {
	eachEdge(func(x api.Tone) {
		for _, steps := range []int{0, -1, -2, -1023, -1024, math.MinInt + 1, math.MinInt} {
			if got, many := tone.Run(x, steps); got != x || many != 0 {
				t.Errorf("Run(%v, %d) is %v, %d", x, steps, got, many)
			}
		}
	})
}

func TestRunIsStepsOneBehindTheOther(t *testing.T) {
	eachEdge(func(x api.Tone) {
		want, many := x, 0
		for steps := range 2100 {
			if got, often := tone.Run(x, steps); got != want || often != many {
				t.Fatalf("Run(%v, %d) is %v, %d, not %v, %d", x, steps, got, often, want, many)
			}
			next, turned := tone.Step(want)
			if want = next; turned {
				many++
			}
		}
	})
}

func TestRunOfAllRightTones(t *testing.T) {
	eachRight(func(x api.Tone) {
		for _, steps := range []int{1, 2, x.Count - 1, x.Count, x.Count + 1} {
			steps = min(steps, 8)
			want, many := runOf(x, steps)
			if got, often := tone.Run(x, steps); got != want || often != many {
				t.Fatalf("Run(%v, %d) is %v, %d, not %v, %d", x, steps, got, often, want, many)
			}
		}
		first := max(x.Count, 1)
		want := api.Tone{Period: x.Period, Count: x.Period, Out: !x.Out}
		if x.Period < 2 {
			want.Count, want.Out = 1, true
		}
		if got, _ := tone.Run(x, first); got != want {
			t.Fatalf("Run(%v, %d) is %v, not %v", x, first, got, want)
		}
	})
}

func TestRunGoesOnWhereItWasLeft(t *testing.T) {
	eachEdge(func(x api.Tone) {
		for _, steps := range []int{1, 2, 99, 1023, 1024, 123456, 1 << 40} {
			for _, more := range []int{1, 3, 1022, 77777, 1<<40 + 7} {
				left, first := tone.Run(x, steps)
				left, second := tone.Run(left, more)
				whole, many := tone.Run(x, steps+more)
				if left != whole || first+second != many {
					t.Errorf("%v, %d and %d steps: %v, %d, not %v, %d", x, steps, more, left, first+second, whole, many)
				}
			}
		}
	})
}

func TestRunOfMoreStepsThanAnyoneWaitsFor(t *testing.T) {
	const steps = 1<<63 - 1
	cases := []struct {
		x, want api.Tone
		many    int
	}{
		// 2^63 - 1 is a multiple of 7; less 1, it is a multiple of 2.
		{api.Tone{Period: 7, Count: 7}, api.Tone{Period: 7, Count: 7, Out: true}, steps / 7},
		{api.Tone{Period: 2, Count: 1}, api.Tone{Period: 2, Count: 2}, 1 << 62},
		{api.Tone{Period: 2, Count: 2}, api.Tone{Period: 2, Count: 1, Out: true}, 1<<62 - 1},
		{api.Tone{Period: 512, Count: 511}, api.Tone{Period: 512, Count: 512}, 1 << 54},
		{api.Tone{Period: 512, Count: 512}, api.Tone{Period: 512, Count: 1, Out: true}, 1<<54 - 1},
		{api.Tone{Period: 1, Count: 1023}, api.Tone{Period: 1, Count: 1, Out: true}, 0},
		{api.Tone{Period: 0, Count: 1023}, api.Tone{Period: 0, Count: 1, Out: true}, 0},
	}
	for i, c := range cases {
		if x, many := tone.Run(c.x, steps); x != c.want || many != c.many {
			t.Errorf("%d: Run(%v) is %v, %d", i, c.x, x, many)
		}
	}
}

// P3.2: Until

func TestUntilByHand(t *testing.T) {
	cases := []struct{ period, count, want int }{
		{2, 0, 1}, {2, 1, 1}, {2, 2, 2}, {2, 1023, 1023},
		{3, 2, 2}, {3, 3, 3}, {1023, 0, 1}, {1023, 1, 1}, {1023, 1023, 1023},
		{1, 0, 0}, {1, 1, 0}, {1, 2, 0}, {1, 1023, 0},
		{0, 0, 0}, {0, 1, 0}, {0, 2, 0}, {0, 1023, 0},
	}
	for _, c := range cases {
		for _, out := range []bool{false, true} {
			if got := tone.Until(api.Tone{Period: c.period, Count: c.count, Out: out}); got != c.want {
				t.Errorf("Period %d, Count %d, Out %v: %d, not %d", c.period, c.count, out, got, c.want)
			}
		}
	}
}

func TestUntilIsTheFirstTrueStep(t *testing.T) {
	eachEdge(func(x api.Tone) {
		want := 0
		for k, y := 1, x; k <= 2100 && want == 0; k++ {
			next, turned := tone.Step(y)
			if y = next; turned {
				want = k
			}
		}
		if got := tone.Until(x); got != want {
			t.Errorf("Until(%v) is %d, not %d", x, got, want)
		}
	})
}

func TestUntilIsWhereRunBeginsToCount(t *testing.T) {
	eachRight(func(x api.Tone) {
		until := tone.Until(x)
		if (until == 0) != (x.Period < 2) {
			t.Fatalf("Until(%v) is %d", x, until)
		}
		if until == 0 {
			return
		}
		_, before := tone.Run(x, until-1)
		_, behind := tone.Run(x, until)
		if before != 0 || behind != 1 {
			t.Fatalf("Until(%v) is %d, but Run counts %d ahead of it, and %d there", x, until, before, behind)
		}
	})
}

// P1, P2 and the rules that hold everywhere

func TestEveryCallEndsAtAnyTone(t *testing.T) {
	numbers := append([]int{0, 1, 2, 3, 1023}, wrong...)
	for _, period := range numbers {
		for _, count := range numbers {
			for _, out := range []bool{false, true} {
				x := api.Tone{Period: period, Count: count, Out: out}
				tone.Right(x)
				tone.Step(x)
				tone.Until(x)
				for _, steps := range numbers {
					tone.Run(x, steps)
				}
			}
		}
	}
}

func TestAToneIsAValueThatIsAnsweredAnew(t *testing.T) {
	eachEdge(func(x api.Tone) {
		kept := x
		one, turned := tone.Step(x)
		run, many := tone.Run(x, 1234)
		until := tone.Until(x)
		if x != kept {
			t.Fatalf("%v was handed in, and is %v", kept, x)
		}
		again, turnedAgain := tone.Step(x)
		runAgain, manyAgain := tone.Run(x, 1234)
		if again != one || turnedAgain != turned || runAgain != run || manyAgain != many || tone.Until(x) != until {
			t.Errorf("%v: asked again, another answer", x)
		}
	})
}
