package psg_test

import (
	"math"
	"slices"
	"testing"

	"joystick/api"
	"joystick/noise"
	"joystick/psg"
	"joystick/tone"
)

// loud are the volumes by the document.
var loud = []int{8191, 6507, 5168, 4105, 3261, 2590, 2057, 1642, 1298, 1031, 819, 650, 516, 410, 326, 0}

// anyNumber goes round through numbers that look like chance, the same ones each time.
type anyNumber uint64

func (a *anyNumber) below(n int) int {
	*a = *a*6364136223846793005 + 1442695040888963407
	return int(uint64(*a) >> 33 % uint64(n))
}

// one answers one of these.
func (a *anyNumber) one(of ...int) int { return of[a.below(len(of))] }

// tone answers a RIGHT tone, nearly always with a short Period.
func (a *anyNumber) tone() api.Tone {
	return api.Tone{
		Period: a.one(0, 1, 2, 3, a.below(16), a.below(1024), 1023),
		Count:  a.one(0, 1, 2, a.below(16), a.below(1024), 1023),
		Out:    a.below(2) == 1,
	}
}

// sound answers a RIGHT sound.
func (a *anyNumber) sound() api.Sound {
	s := api.Sound{
		Noise: api.Noise{Mode: byte(a.below(8)), Count: a.one(0, 1, a.below(65), 64), Half: a.below(2) == 1, Shift: uint16(a.one(1, 2, 32768, 1+a.below(65535)))},
		Latch: byte(a.below(8)),
	}
	for i := range s.Tones {
		s.Tones[i] = a.tone()
	}
	for i := range s.Quiet {
		s.Quiet[i] = byte(a.below(16))
	}
	return s
}

// eachSound goes through so many RIGHT sounds.
func eachSound(many int, do func(api.Sound)) {
	var a anyNumber = 1
	for range many {
		do(a.sound())
	}
}

// wrongSounds are sounds that aren't RIGHT, each by one thing.
func wrongSounds() []api.Sound {
	var all []api.Sound
	with := func(change func(*api.Sound)) {
		s := psg.New()
		change(&s)
		all = append(all, s)
	}
	for _, n := range []int{-1, -2, -1023, 1024, 1025, 65536, 1 << 32, math.MaxInt, math.MinInt} {
		for i := range 3 {
			with(func(s *api.Sound) { s.Tones[i].Period = n })
			with(func(s *api.Sound) { s.Tones[i].Count = n })
			with(func(s *api.Sound) { s.Tones[i] = api.Tone{Period: n, Count: n, Out: true} })
		}
	}
	for _, n := range []int{-1, 65, 1023, 1 << 32, math.MaxInt, math.MinInt} {
		with(func(s *api.Sound) { s.Noise.Count = n })
	}
	with(func(s *api.Sound) { s.Noise.Shift = 0 })
	for _, v := range []byte{8, 15, 16, 128, 255} {
		with(func(s *api.Sound) { s.Noise.Mode = v })
		with(func(s *api.Sound) { s.Latch = v })
	}
	for _, v := range []byte{16, 17, 31, 32, 64, 128, 240, 255} {
		for i := range 4 {
			with(func(s *api.Sound) { s.Quiet[i] = v })
		}
	}
	return all
}

// writeOf tells by the document's words what Write answers of a RIGHT sound.
func writeOf(s api.Sound, v byte) api.Sound {
	b := int(v)
	if b >= 128 {
		s.Latch = byte(b / 16 % 8)
	}
	part := s.Latch / 2
	if s.Latch%2 == 1 {
		s.Quiet[part] = byte(b % 16)
		return s
	}
	if part == 3 {
		s.Noise.Mode, s.Noise.Shift = byte(b%8), 32768
		return s
	}
	low, high := s.Tones[part].Period%16, s.Tones[part].Period/16
	if b >= 128 {
		low = b % 16
	} else {
		high = b % 64
	}
	s.Tones[part].Period = 16*high + low
	return s
}

// stepOf tells by the document's words what Step answers.
func stepOf(s api.Sound) api.Sound {
	var turned bool
	s.Tones[0], _ = tone.Step(s.Tones[0])
	s.Tones[1], _ = tone.Step(s.Tones[1])
	s.Tones[2], turned = tone.Step(s.Tones[2])
	s.Noise = noise.Step(s.Noise, turned)
	return s
}

// sampleOf tells by the document's words what Sample answers.
func sampleOf(s api.Sound) int {
	sum := 0
	heard := []bool{s.Tones[0].Out, s.Tones[1].Out, s.Tones[2].Out, s.Noise.Shift%2 == 1}
	for i, is := range heard {
		if is {
			sum += loud[s.Quiet[i]]
		}
	}
	return sum
}

// runOf tells by the document's words what Run answers, for steps that can be gone through.
func runOf(s api.Sound, steps, every, phase int) (api.Sound, []int) {
	var samples []int
	for number := 1; number <= steps; number++ {
		s = stepOf(s)
		// Both remainders, for the sum may be too great for an int.
		if every >= 1 && phase >= 0 && (number%every+phase%every)%every == 0 {
			samples = append(samples, sampleOf(s))
		}
	}
	return s, samples
}

// Right

func TestRightOfAllThatCanBe(t *testing.T) {
	eachSound(5000, func(s api.Sound) {
		if !psg.Right(s) {
			t.Fatalf("%v isn't RIGHT", s)
		}
	})
}

func TestNotRightByOneThing(t *testing.T) {
	for _, s := range wrongSounds() {
		if psg.Right(s) {
			t.Errorf("%v is RIGHT", s)
		}
	}
	if psg.Right(api.Sound{}) {
		t.Error("the zero sound is RIGHT: its noise's Shift is 0")
	}
}

func TestRightByEachByte(t *testing.T) {
	for v := range 256 {
		s := psg.New()
		s.Latch = byte(v)
		if psg.Right(s) != (v < 8) {
			t.Errorf("Latch %d: not %v", v, v < 8)
		}
		s = psg.New()
		s.Noise.Mode = byte(v)
		if psg.Right(s) != (v < 8) {
			t.Errorf("Mode %d: not %v", v, v < 8)
		}
		for i := range 4 {
			s = psg.New()
			s.Quiet[i] = byte(v)
			if psg.Right(s) != (v < 16) {
				t.Errorf("Quiet %d of %d: not %v", v, i, v < 16)
			}
		}
	}
}

func TestRightAtTheEdges(t *testing.T) {
	s := psg.New()
	for i := range s.Tones {
		s.Tones[i] = api.Tone{Period: 1023, Count: 1023, Out: true}
	}
	s.Noise = api.Noise{Mode: 7, Count: 64, Half: true, Shift: 65535}
	s.Latch = 7
	if !psg.Right(s) {
		t.Error("all as great as it can be: not RIGHT")
	}
	s = api.Sound{Noise: api.Noise{Shift: 1}}
	if !psg.Right(s) {
		t.Error("all as small as it can be: not RIGHT")
	}
}

// P5.1: New, Volume

func TestNew(t *testing.T) {
	want := api.Sound{Noise: api.Noise{Shift: 32768}, Quiet: [4]byte{15, 15, 15, 15}}
	if got := psg.New(); got != want || !psg.Right(got) {
		t.Error("New is", got)
	}
	if psg.Sample(psg.New()) != 0 {
		t.Error("a new one is heard")
	}
}

func TestVolume(t *testing.T) {
	for quiet := range 256 {
		if got := psg.Volume(byte(quiet)); got != loud[quiet%16] {
			t.Errorf("Volume(%d) is %d, not %d", quiet, got, loud[quiet%16])
		}
	}
}

func TestMostIsFourTimesTheLoudest(t *testing.T) {
	if psg.Most != 32764 || psg.Most != 4*psg.Volume(0) {
		t.Error("Most is", psg.Most)
	}
}

// P5.2: Write

func TestTheExamples(t *testing.T) {
	s := psg.Write(psg.New(), 144)
	if want := (api.Sound{Noise: api.Noise{Shift: 32768}, Quiet: [4]byte{0, 15, 15, 15}, Latch: 1}); s != want {
		t.Error("144:", s)
	}
	s.Quiet[2] = 4
	s = psg.Write(s, 223)
	if want := (api.Sound{Noise: api.Noise{Shift: 32768}, Quiet: [4]byte{0, 15, 15, 15}, Latch: 5}); s != want {
		t.Error("223:", s)
	}
}

func TestWriteByHand(t *testing.T) {
	from := api.Sound{Tones: [3]api.Tone{{Period: 0x2A5, Count: 9}, {Period: 0x15A, Count: 8, Out: true}, {Period: 0x3FF}}, Noise: api.Noise{Mode: 2, Count: 5, Half: true, Shift: 77}, Quiet: [4]byte{1, 2, 3, 4}, Latch: 2}
	cases := []struct {
		what   string
		bytes  []byte
		change func(*api.Sound)
	}{
		{"the first Period's low piece", []byte{0x8C}, func(s *api.Sound) { s.Latch = 0; s.Tones[0].Period = 0x2AC }},
		{"the second Period's high piece, by the Latch that is", []byte{0x3F}, func(s *api.Sound) { s.Tones[1].Period = 0x3FA }},
		{"the bit 6 doesn't count", []byte{0x40}, func(s *api.Sound) { s.Tones[1].Period = 0x00A }},
		{"all bits below 128", []byte{0x7F}, func(s *api.Sound) { s.Tones[1].Period = 0x3FA }},
		{"both pieces of the third Period", []byte{0xC1, 0x20}, func(s *api.Sound) { s.Latch = 4; s.Tones[2].Period = 0x201 }},
		{"a high piece twice: the last one counts", []byte{0xC1, 0x20, 0x03}, func(s *api.Sound) { s.Latch = 4; s.Tones[2].Period = 0x031 }},
		{"the first quiet", []byte{0x97}, func(s *api.Sound) { s.Latch = 1; s.Quiet[0] = 7 }},
		{"the second quiet, then by a byte below 128", []byte{0xB7, 0x75}, func(s *api.Sound) { s.Latch = 3; s.Quiet[1] = 5 }},
		{"the third quiet", []byte{0xD0}, func(s *api.Sound) { s.Latch = 5; s.Quiet[2] = 0 }},
		{"the noise's quiet", []byte{0xFF}, func(s *api.Sound) { s.Latch = 7; s.Quiet[3] = 15 }},
		{"the noise", []byte{0xE5}, func(s *api.Sound) { s.Latch = 6; s.Noise = api.Noise{Mode: 5, Count: 5, Half: true, Shift: 32768} }},
		{"the noise: three bits count", []byte{0xEE}, func(s *api.Sound) { s.Latch = 6; s.Noise = api.Noise{Mode: 6, Count: 5, Half: true, Shift: 32768} }},
		{"the noise by a byte below 128", []byte{0xE5, 0x7B}, func(s *api.Sound) { s.Latch = 6; s.Noise = api.Noise{Mode: 3, Count: 5, Half: true, Shift: 32768} }},
		{"as it is: the noise begins anew", []byte{0xE2}, func(s *api.Sound) { s.Latch = 6; s.Noise.Shift = 32768 }},
	}
	for _, c := range cases {
		got, want := from, from
		for _, v := range c.bytes {
			got = psg.Write(got, v)
		}
		c.change(&want)
		if got != want {
			t.Errorf("%s: %v, not %v", c.what, got, want)
		}
	}
}

func TestWriteOfEachByteAtEachLatch(t *testing.T) {
	eachSound(400, func(s api.Sound) {
		for latch := range byte(8) {
			s.Latch = latch
			for v := range 256 {
				got := psg.Write(s, byte(v))
				if want := writeOf(s, byte(v)); got != want {
					t.Fatalf("Write(%v, %d) is %v, not %v", s, v, got, want)
				}
				if !psg.Right(got) {
					t.Fatalf("Write(%v, %d) isn't RIGHT", s, v)
				}
			}
		}
	})
}

func TestEachPeriodIsWrittenByTwoPieces(t *testing.T) {
	for part := range 3 {
		s := psg.New()
		for period := range 1024 {
			s = psg.Write(s, byte(128+32*part+period%16))
			s = psg.Write(s, byte(period/16))
			if s.Tones[part].Period != period {
				t.Fatalf("tone %d: %d was written, and is %d", part, period, s.Tones[part].Period)
			}
		}
	}
}

func TestAWriteTurnsNothingAbout(t *testing.T) {
	s := psg.New()
	s.Tones[0] = api.Tone{Period: 9, Count: 7, Out: true}
	s = psg.Write(psg.Write(s, 0x80), 0x01)
	if want := (api.Tone{Period: 16, Count: 7, Out: true}); s.Tones[0] != want {
		t.Error("the Count or Out of a tone that is written is changed:", s.Tones[0])
	}
}

// P5.3: Step, Sample

func TestStepByHand(t *testing.T) {
	s := api.Sound{Tones: [3]api.Tone{{Period: 5, Count: 2}, {Period: 1, Count: 1}, {Period: 7, Count: 1}}, Noise: api.Noise{Mode: 3, Count: 9, Shift: 2}, Quiet: [4]byte{1, 2, 3, 4}, Latch: 6}
	want := s
	want.Tones = [3]api.Tone{{Period: 5, Count: 1}, {Period: 1, Count: 1, Out: true}, {Period: 7, Count: 7, Out: true}}
	want.Noise = api.Noise{Mode: 3, Count: 9, Half: true, Shift: 1}
	if s = psg.Step(s); s != want {
		t.Fatalf("the third tone was turned about: %v, not %v", s, want)
	}
	want.Tones[0], want.Tones[2].Count = api.Tone{Period: 5, Count: 5, Out: true}, 6
	if s = psg.Step(s); s != want {
		t.Fatalf("the third tone wasn't turned about: %v, not %v", s, want)
	}
}

func TestTheNoiseGoesWithTheThirdToneAlone(t *testing.T) {
	for part := range 3 {
		s := psg.New()
		s.Noise.Mode = 7
		s.Tones[part] = api.Tone{Period: 2, Count: 1}
		if got := psg.Step(s); got.Noise.Half != (part == 2) {
			t.Errorf("tone %d was turned about: %v", part, got.Noise)
		}
	}
}

func TestAThirdToneWithAShortPeriodTurnsNothing(t *testing.T) {
	for period := range 2 {
		s := psg.New()
		s.Noise.Mode = 3
		s.Tones[2].Period = period
		for range 50 {
			s = psg.Step(s)
		}
		if s.Noise != (api.Noise{Mode: 3, Shift: 32768}) || !s.Tones[2].Out {
			t.Errorf("Period %d: %v", period, s)
		}
	}
}

func TestStepOfRightSounds(t *testing.T) {
	eachSound(20000, func(s api.Sound) {
		for range 4 {
			want := stepOf(s)
			got := psg.Step(s)
			if got != want {
				t.Fatalf("Step(%v) is %v, not %v", s, got, want)
			}
			if !psg.Right(got) {
				t.Fatalf("Step(%v) isn't RIGHT", s)
			}
			s = got
		}
	})
}

func TestSampleByHand(t *testing.T) {
	on, off := api.Tone{Out: true}, api.Tone{}
	hiss, still := api.Noise{Shift: 0x8001}, api.Noise{Shift: 0xFFFE}
	cases := []struct {
		s    api.Sound
		want int
	}{
		{api.Sound{Tones: [3]api.Tone{on, on, on}, Noise: hiss}, 32764},
		{api.Sound{Tones: [3]api.Tone{off, off, off}, Noise: still}, 0},
		{api.Sound{Tones: [3]api.Tone{on, on, on}, Noise: hiss, Quiet: [4]byte{15, 15, 15, 15}}, 0},
		{api.Sound{Tones: [3]api.Tone{on, off, off}, Noise: still, Quiet: [4]byte{1, 2, 3, 4}}, 6507},
		{api.Sound{Tones: [3]api.Tone{off, on, off}, Noise: still, Quiet: [4]byte{1, 2, 3, 4}}, 5168},
		{api.Sound{Tones: [3]api.Tone{off, off, on}, Noise: still, Quiet: [4]byte{1, 2, 3, 4}}, 4105},
		{api.Sound{Tones: [3]api.Tone{off, off, off}, Noise: hiss, Quiet: [4]byte{1, 2, 3, 4}}, 3261},
		{api.Sound{Tones: [3]api.Tone{on, off, on}, Noise: hiss, Quiet: [4]byte{14, 0, 13, 12}}, 326 + 410 + 516},
	}
	for i, c := range cases {
		if got := psg.Sample(c.s); got != c.want {
			t.Errorf("%d: Sample(%v) is %d, not %d", i, c.s, got, c.want)
		}
	}
}

func TestSampleOfRightSounds(t *testing.T) {
	eachSound(20000, func(s api.Sound) {
		got := psg.Sample(s)
		if got != sampleOf(s) {
			t.Fatalf("Sample(%v) is %d, not %d", s, got, sampleOf(s))
		}
		if got < 0 || got > psg.Most {
			t.Fatalf("Sample(%v) is %d", s, got)
		}
	})
}

// P5.4: Run

// sameRun holds Run's answer against single Steps.
func sameRun(t *testing.T, s api.Sound, steps, every, phase int) {
	t.Helper()
	got, heard := psg.Run(s, steps, every, phase)
	want, asked := runOf(s, steps, every, phase)
	if got != want || !slices.Equal(heard, asked) {
		t.Fatalf("Run(%v, %d, %d, %d) is %v, %v, not %v, %v", s, steps, every, phase, got, heard, want, asked)
	}
}

func TestRunOfAnySounds(t *testing.T) {
	var a anyNumber = 7
	for range 3000 {
		s := a.sound()
		steps := a.one(-1, 0, 1, 2, a.below(70), a.below(300))
		every := a.one(-1, 0, 1, 2, 3, 1+a.below(16), 1+a.below(300))
		phase := a.one(-1, 0, 1, a.below(16), a.below(1000))
		sameRun(t, s, steps, every, phase)
	}
}

func TestRunOfEachEveryAndPhase(t *testing.T) {
	var a anyNumber = 3
	s := a.sound()
	for steps := range 9 {
		for every := -2; every <= 9; every++ {
			for phase := -2; phase <= 19; phase++ {
				sameRun(t, s, steps, every, phase)
			}
		}
	}
}

func TestRunThroughManySteps(t *testing.T) {
	var a anyNumber = 5
	for mode := range byte(8) {
		s := a.sound()
		s.Noise.Mode = mode
		s.Tones[2].Period = 2 + a.below(9)
		sameRun(t, s, 20000, 1+a.below(100), a.below(100))
		sameRun(t, s, 20000, 0, 0)
	}
}

func TestNoStepsBelowOne(t *testing.T) {
	eachSound(100, func(s api.Sound) {
		for _, steps := range []int{0, -1, -2, math.MinInt, math.MinInt + 1} {
			for _, every := range []int{math.MinInt, -1, 0, 1, 2, math.MaxInt} {
				for _, phase := range []int{math.MinInt, -1, 0, 1, 2, math.MaxInt} {
					if got, heard := psg.Run(s, steps, every, phase); got != s || len(heard) > 0 {
						t.Fatalf("Run(%v, %d, %d, %d) is %v, %v", s, steps, every, phase, got, heard)
					}
				}
			}
		}
	})
}

func TestNoSamplesOfWrongEveryOrPhase(t *testing.T) {
	s := psg.New()
	s.Tones[0], s.Quiet[0] = api.Tone{Period: 3, Count: 2}, 0
	for _, wrong := range []int{-1, -2, -5, math.MinInt, math.MinInt + 1} {
		sameRun(t, s, 30, wrong, 0)
		sameRun(t, s, 30, wrong, 2)
		sameRun(t, s, 30, 1, wrong)
		sameRun(t, s, 30, 5, wrong)
		sameRun(t, s, 30, wrong, wrong)
	}
	sameRun(t, s, 30, 0, 0)
	sameRun(t, s, 30, 0, 7)
}

func TestSamplesOfGreatEveryOrPhase(t *testing.T) {
	var a anyNumber = 9
	s := a.sound()
	for _, phase := range []int{math.MaxInt, math.MaxInt - 1, math.MaxInt - 6, 1 << 62, 1 << 32} {
		for _, every := range []int{1, 2, 3, 7, 16} {
			sameRun(t, s, 40, every, phase)
		}
		for _, short := range []int{1, 5, 40} {
			// The number and the phase come to every for the first time behind short Steps.
			got, heard := psg.Run(s, 40, phase, phase-short)
			want, _ := runOf(s, 40, 0, 0)
			at, _ := runOf(s, short, 0, 0)
			if got != want || len(heard) != 1 || heard[0] != sampleOf(at) {
				t.Errorf("every %d, phase %d: %v", phase, phase-short, heard)
			}
		}
		if _, heard := psg.Run(s, 40, phase, phase-41); len(heard) > 0 {
			t.Errorf("every %d, phase %d: %v", phase, phase-41, heard)
		}
		if _, heard := psg.Run(s, 40, phase, 0); len(heard) > 0 {
			t.Errorf("every %d, phase 0: %v", phase, heard)
		}
	}
}

func TestRunInPiecesIsARun(t *testing.T) {
	var a anyNumber = 11
	for range 300 {
		s := a.sound()
		first, second, every := a.below(100), a.below(100), 1+a.below(20)
		phase := a.below(every)
		want, all := psg.Run(s, first+second, every, phase)
		got, heard := psg.Run(s, first, every, phase)
		got, rest := psg.Run(got, second, every, (phase+first)%every)
		if got != want || !slices.Equal(slices.Concat(heard, rest), all) {
			t.Fatalf("%v: %d and %d Steps aren't %d", s, first, second, first+second)
		}
	}
}

// manySteps tells a sound behind so many Steps, its noise gone through one by one.
func manySteps(s api.Sound, steps int) api.Sound {
	for range steps {
		s = stepOf(s)
	}
	return s
}

func TestMoreStepsThanANoiseGoesRoundIn(t *testing.T) {
	if testing.Short() {
		t.Skip("many steps")
	}
	third := api.Tone{Period: 2, Count: 2}
	sounds := []api.Sound{
		{Tones: [3]api.Tone{{Period: 9}, {Period: 1000, Count: 3}, third}, Noise: api.Noise{Mode: 7, Count: 3, Shift: 32768}},
		{Tones: [3]api.Tone{{Period: 9}, {Period: 1000, Count: 3}, third}, Noise: api.Noise{Mode: 3, Shift: 5, Half: true}},
		{Tones: [3]api.Tone{{Period: 9}, {Period: 1000, Count: 3}, third}, Noise: api.Noise{Mode: 4, Count: 64, Shift: 32768}},
		{Noise: api.Noise{Mode: 6, Count: 31, Shift: 99}},
		{Tones: [3]api.Tone{{}, {}, third}, Noise: api.Noise{Mode: 1, Count: 64, Shift: 0x1234}},
	}
	for _, s := range sounds {
		const steps = 20_000_123
		want := manySteps(s, steps)
		if got, _ := psg.Run(s, steps, 0, 0); got != want {
			t.Errorf("Run(%v, %d, ..) is %v, not %v", s, steps, got, want)
		}
		if got, heard := psg.Run(s, steps, steps, steps); got != want || len(heard) != 1 || heard[0] != sampleOf(want) {
			t.Errorf("Run(%v, %d, ..) is %v, %v, not %v", s, steps, got, heard, want)
		}
	}
}

func TestManyStepsFromACountOfAnotherRate(t *testing.T) {
	// A short row, so that it has gone round a whole number of times, or nearly.
	s := psg.New()
	s.Noise = api.Noise{Mode: 0, Count: 64, Shift: 0x5555}
	const rounds = 256 * 40_000
	want := manySteps(s, rounds)
	for more := range 70 {
		if got, _ := psg.Run(s, rounds+more, 0, 0); got != want {
			t.Fatalf("%d and %d Steps: %v, not %v", rounds, more, got, want)
		}
		want = stepOf(want)
	}
}

// P1, P2 and the rules that hold everywhere

func TestEveryCallEndsAtAnySound(t *testing.T) {
	sounds := append(wrongSounds(), psg.New(), api.Sound{})
	numbers := []int{math.MinInt, -1, 0, 1, 2, 100}
	for _, s := range sounds {
		psg.Sample(s)
		psg.Step(s)
		for v := range 256 {
			psg.Write(s, byte(v))
		}
		for _, steps := range numbers {
			for _, every := range append(numbers, math.MaxInt) {
				for _, phase := range append(numbers, math.MaxInt) {
					psg.Run(s, steps, every, phase)
				}
			}
		}
	}
}

func TestRunEndsAtAnyNumberOfSteps(t *testing.T) {
	for _, s := range []api.Sound{psg.New(), {}, {Noise: api.Noise{Mode: 255, Count: math.MaxInt}}, {Tones: [3]api.Tone{{}, {}, {Period: 2}}, Noise: api.Noise{Mode: 7, Shift: 1}}} {
		for _, steps := range []int{1<<31 - 1, 1 << 40, math.MaxInt} {
			psg.Run(s, steps, 0, 0)
			psg.Run(s, steps, 1, -1)
			psg.Run(s, steps, steps/2, 1)
			psg.Run(s, steps, math.MaxInt, math.MaxInt)
		}
	}
}

func TestASoundIsAValueThatIsAnsweredAnew(t *testing.T) {
	eachSound(300, func(s api.Sound) {
		kept := s
		step, write := psg.Step(s), psg.Write(s, 0xE3)
		run, heard := psg.Run(s, 50, 3, 1)
		if s != kept {
			t.Fatalf("%v was handed in, and is %v", kept, s)
		}
		told := slices.Clone(heard)
		clear(heard[:cap(heard)])
		again, anew := psg.Run(s, 50, 3, 1)
		if psg.Step(s) != step || psg.Write(s, 0xE3) != write || again != run || !slices.Equal(anew, told) {
			t.Fatalf("%v: asked again, another answer", s)
		}
	})
}
