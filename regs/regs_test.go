package regs_test

import (
	"math"
	"testing"

	"joystick/api"
	"joystick/regs"
)

// apart are registers of which no two hold the same.
func apart() api.Regs {
	return api.Regs{
		A: 1, F: 2, B: 3, C: 4, D: 5, E: 6, H: 7, L: 8,
		Alt: [8]byte{11, 12, 13, 14, 15, 16, 17, 18},
		IX:  256*21 + 22, IY: 256*23 + 24, SP: 256*25 + 26, PC: 256*27 + 28, WZ: 256*29 + 30,
		I: 31, R: 32, IM: 2,
	}
}

// full are registers that hold as much as they can; they aren't RIGHT.
func full() api.Regs {
	const all, most = 255, 65535
	return api.Regs{
		A: all, F: all, B: all, C: all, D: all, E: all, H: all, L: all,
		Alt: [8]byte{all, all, all, all, all, all, all, all},
		IX:  most, IY: most, SP: most, PC: most, WZ: most,
		I: all, R: all, IM: all, Prefix: all,
		IFF1: true, IFF2: true, Halted: true, Delay: true,
	}
}

// with tells registers with another Prefix.
func with(r api.Regs, prefix byte) api.Regs {
	r.Prefix = prefix
	return r
}

// some are registers that differ much.
func some() []api.Regs {
	return []api.Regs{{}, regs.New(), apart(), full(), with(apart(), 221), with(apart(), 253)}
}

// halves are a number's two bytes.
type halves struct{ high, low byte }

// halvesOf tells them.
func halvesOf(v uint16) halves { return halves{byte(v / 256), byte(v % 256)} }

// whole tells the number.
func (h halves) whole() uint16 { return 256*uint16(h.high) + uint16(h.low) }

// aPair is a pair as the document tells it: its name, how it is read, and how it is laid.
type aPair struct {
	name string
	get  func(r api.Regs) halves
	set  func(r *api.Regs, to halves)
}

// thePairs are by their numbers.
func thePairs() []aPair {
	return []aPair{
		{"BC", func(r api.Regs) halves { return halves{r.B, r.C} }, func(r *api.Regs, to halves) { r.B, r.C = to.high, to.low }},
		{"DE", func(r api.Regs) halves { return halves{r.D, r.E} }, func(r *api.Regs, to halves) { r.D, r.E = to.high, to.low }},
		{"HL", func(r api.Regs) halves { return halves{r.H, r.L} }, func(r *api.Regs, to halves) { r.H, r.L = to.high, to.low }},
		{"SP", func(r api.Regs) halves { return halvesOf(r.SP) }, func(r *api.Regs, to halves) { r.SP = to.whole() }},
		{"AF", func(r api.Regs) halves { return halves{r.A, r.F} }, func(r *api.Regs, to halves) { r.A, r.F = to.high, to.low }},
		{"IX", func(r api.Regs) halves { return halvesOf(r.IX) }, func(r *api.Regs, to halves) { r.IX = to.whole() }},
		{"IY", func(r api.Regs) halves { return halvesOf(r.IY) }, func(r *api.Regs, to halves) { r.IY = to.whole() }},
	}
}

// beyond are numbers that no register and no pair has; some would be one's, if they were cut to a byte or to 32 bits, or masked.
func beyond() []int {
	out := []int{-1, -2, -7, -8, -256, 9, 10, 15, 16, 255, 256, 258, 1 << 32, 1<<32 + 2, -(1 << 32), math.MinInt, math.MinInt + 2, math.MaxInt, math.MaxInt - 1}
	for n := 11; n < 300; n++ {
		out = append(out, n, -n)
	}
	return out
}

// P10.1: New

func TestNew(t *testing.T) {
	want := api.Regs{A: 255, F: 255, SP: 57328}
	if r := regs.New(); r != want {
		t.Errorf("new: %v", r)
	}
	if !regs.Right(regs.New()) {
		t.Error("new ones aren't RIGHT")
	}
}

// P10.1: Right

func TestRightOfAnyModeAndPrefix(t *testing.T) {
	for _, r := range some() {
		for mode := range 256 {
			for prefix := range 256 {
				r.IM, r.Prefix = byte(mode), byte(prefix)
				want := mode < 3 && (prefix == 0 || prefix == 221 || prefix == 253)
				if got := regs.Right(r); got != want {
					t.Fatalf("IM %d and Prefix %d: RIGHT is %v", mode, prefix, got)
				}
			}
		}
	}
}

// P10.1: Index

func TestIndexOfAnyPrefix(t *testing.T) {
	for prefix := range 256 {
		want := 2
		switch prefix {
		case 221:
			want = 5
		case 253:
			want = 6
		}
		if got := regs.Index(byte(prefix)); got != want {
			t.Errorf("behind the prefix %d the pair %d points, not %d", prefix, got, want)
		}
	}
}

// P10.2: Pair and SetPair

func TestTheExample(t *testing.T) {
	if r := regs.SetPair(api.Regs{}, api.HL, 258); r != (api.Regs{H: 1, L: 2}) {
		t.Errorf("SetPair of HL and 258: %v", r)
	}
}

func TestPairByHand(t *testing.T) {
	for n, want := range []uint16{256*3 + 4, 256*5 + 6, 256*7 + 8, 256*25 + 26, 256*1 + 2, 256*21 + 22, 256*23 + 24} {
		if got := regs.Pair(apart(), n); got != want {
			t.Errorf("the pair %d is %d, not %d", n, got, want)
		}
	}
}

func TestPairsHaveTheirNumbers(t *testing.T) {
	for want, n := range []int{api.BC, api.DE, api.HL, api.SP, api.AF, api.IX, api.IY} {
		if n != want {
			t.Errorf("%s has the number %d, not %d", thePairs()[want].name, n, want)
		}
	}
}

func TestAPairOfAnyNumber(t *testing.T) {
	for n, pair := range thePairs() {
		for _, r := range some() {
			for v := range 65536 {
				want := r
				pair.set(&want, halvesOf(uint16(v)))
				got := regs.SetPair(r, n, uint16(v))
				if got != want {
					t.Fatalf("%s of %v to %d: %v", pair.name, r, v, got)
				}
				if back := regs.Pair(got, n); back != uint16(v) {
					t.Fatalf("%s is %d, and was set to %d", pair.name, back, v)
				}
			}
		}
	}
}

func TestPairOfSomeRegisters(t *testing.T) {
	for n, pair := range thePairs() {
		for _, r := range some() {
			if got, want := regs.Pair(r, n), pair.get(r).whole(); got != want {
				t.Errorf("%s of %v is %d, not %d", pair.name, r, got, want)
			}
		}
	}
}

func TestNoPair(t *testing.T) {
	for _, n := range append(beyond(), 7, 8) {
		for _, r := range some() {
			if got := regs.Pair(r, n); got != 0 {
				t.Errorf("there is no pair %d, and it is %d", n, got)
			}
			if got := regs.SetPair(r, n, 12345); got != r {
				t.Errorf("there is no pair %d, and %v became %v", n, r, got)
			}
		}
	}
}

// P10.2: One and SetOne

// places tells, by their numbers, where the registers are; nil is none, and so are H and L behind a prefix of an index.
func places(r *api.Regs) [8]*byte {
	return [8]*byte{&r.B, &r.C, &r.D, &r.E, &r.H, &r.L, nil, &r.A}
}

// indexOf tells the pair whose bytes H and L are behind a prefix; nil, if they are themselves.
func indexOf(r *api.Regs, prefix byte) *uint16 {
	switch prefix {
	case 221:
		return &r.IX
	case 253:
		return &r.IY
	}
	return nil
}

// oneOf tells what One answers of a number from 0 to 7.
func oneOf(r api.Regs, n int, prefix byte) byte {
	if pair := indexOf(&r, prefix); pair != nil && n == 4 {
		return halvesOf(*pair).high
	} else if pair != nil && n == 5 {
		return halvesOf(*pair).low
	}
	if place := places(&r)[n]; place != nil {
		return *place
	}
	return 0
}

// setOf tells what SetOne answers of a number from 0 to 7.
func setOf(r api.Regs, n int, prefix, v byte) api.Regs {
	if pair := indexOf(&r, prefix); pair != nil && n == 4 {
		*pair = halves{v, halvesOf(*pair).low}.whole()
	} else if pair != nil && n == 5 {
		*pair = halves{halvesOf(*pair).high, v}.whole()
	} else if place := places(&r)[n]; place != nil {
		*place = v
	}
	return r
}

func TestOneByHand(t *testing.T) {
	for prefix, want := range map[byte][8]byte{
		0:   {3, 4, 5, 6, 7, 8, 0, 1},
		221: {3, 4, 5, 6, 21, 22, 0, 1},
		253: {3, 4, 5, 6, 23, 24, 0, 1},
		203: {3, 4, 5, 6, 7, 8, 0, 1},
		237: {3, 4, 5, 6, 7, 8, 0, 1},
	} {
		for n, v := range want {
			if got := regs.One(apart(), n, prefix); got != v {
				t.Errorf("behind the prefix %d the register %d is %d, not %d", prefix, n, got, v)
			}
		}
	}
}

func TestSetOneByHand(t *testing.T) {
	r := apart()
	r.IX = 256*99 + 22
	if got := regs.SetOne(apart(), 4, 221, 99); got != r {
		t.Errorf("H behind 221: %v", got)
	}
	r = apart()
	r.IY = 256*23 + 99
	if got := regs.SetOne(apart(), 5, 253, 99); got != r {
		t.Errorf("L behind 253: %v", got)
	}
	r = apart()
	r.L = 99
	if got := regs.SetOne(apart(), 5, 0, 99); got != r {
		t.Errorf("L: %v", got)
	}
}

func TestARegisterBehindAnyPrefix(t *testing.T) {
	for _, r := range some() {
		for prefix := range 256 {
			for n := range 8 {
				if got, want := regs.One(r, n, byte(prefix)), oneOf(r, n, byte(prefix)); got != want {
					t.Fatalf("behind the prefix %d the register %d of %v is %d, not %d", prefix, n, r, got, want)
				}
				for v := range 256 {
					if got, want := regs.SetOne(r, n, byte(prefix), byte(v)), setOf(r, n, byte(prefix), byte(v)); got != want {
						t.Fatalf("behind the prefix %d the register %d of %v to %d: %v", prefix, n, r, v, got)
					}
				}
			}
		}
	}
}

func TestNoRegister(t *testing.T) {
	for _, prefix := range []byte{0, 221, 253, 255} {
		for _, n := range append(beyond(), 6, 8) {
			for _, r := range some() {
				if got := regs.One(r, n, prefix); got != 0 {
					t.Errorf("there is no register %d, and it is %d", n, got)
				}
				if got := regs.SetOne(r, n, prefix, 99); got != r {
					t.Errorf("there is no register %d, and %v became %v", n, r, got)
				}
			}
		}
	}
}

// P10.3: Swap

func TestSwapOfTheFirstTwo(t *testing.T) {
	want := apart()
	want.A, want.F, want.Alt[0], want.Alt[1] = 11, 12, 1, 2
	if got := regs.Swap(apart(), false); got != want {
		t.Errorf("not all: %v", got)
	}
}

func TestSwapOfAllOthers(t *testing.T) {
	want := apart()
	want.B, want.C, want.D, want.E, want.H, want.L = 13, 14, 15, 16, 17, 18
	want.Alt = [8]byte{11, 12, 3, 4, 5, 6, 7, 8}
	if got := regs.Swap(apart(), true); got != want {
		t.Errorf("all: %v", got)
	}
}

func TestSwapTwice(t *testing.T) {
	for _, r := range some() {
		for _, all := range []bool{false, true} {
			if got := regs.Swap(regs.Swap(r, all), all); got != r {
				t.Errorf("%v: twice, all %v: %v", r, all, got)
			}
		}
		both := regs.Swap(regs.Swap(r, true), false)
		eight := [8]byte{both.A, both.F, both.B, both.C, both.D, both.E, both.H, both.L}
		if eight != r.Alt || both.Alt != [8]byte{r.A, r.F, r.B, r.C, r.D, r.E, r.H, r.L} {
			t.Errorf("%v: the ones, and the others: %v", r, both)
		}
	}
}

// P10.3: Tick

func TestTickOfAnyR(t *testing.T) {
	for _, r := range some() {
		for was := range 256 {
			r.R = byte(was)
			want := r
			want.R = byte(was/128*128 + (was%128+1)%128)
			if got := regs.Tick(r); got != want {
				t.Fatalf("R %d: %v", was, got)
			}
		}
	}
}

func TestTickAtTheEdges(t *testing.T) {
	for was, want := range map[byte]byte{0: 1, 126: 127, 127: 0, 128: 129, 254: 255, 255: 128} {
		if got := regs.Tick(api.Regs{R: was}).R; got != want {
			t.Errorf("R %d became %d, not %d", was, got, want)
		}
	}
}

// P10.4: Met

// metOf tells what Met answers of a condition from 0 to 7.
func metOf(f byte, condition int) bool {
	switch condition {
	case 0:
		return f/64%2 == 0
	case 1:
		return f/64%2 == 1
	case 2:
		return f%2 == 0
	case 3:
		return f%2 == 1
	case 4:
		return f/4%2 == 0
	case 5:
		return f/4%2 == 1
	case 6:
		return f/128 == 0
	}
	return f/128 == 1
}

// lowestThree tells the number of the lowest three bits; below 0 they are those of so many eights more.
func lowestThree(n int) int { return (n%8 + 8) % 8 }

func TestMetOfAnyFlags(t *testing.T) {
	conditions := []int{math.MinInt, math.MinInt + 1, math.MinInt + 6, math.MaxInt, math.MaxInt - 1, math.MaxInt - 7, 1 << 32, 1<<32 + 3, 255, 256, 261}
	for condition := -40; condition < 40; condition++ {
		conditions = append(conditions, condition)
	}
	for _, condition := range conditions {
		for f := range 256 {
			if got, want := regs.Met(byte(f), condition), metOf(byte(f), lowestThree(condition)); got != want {
				t.Fatalf("the condition %d with %08b: %v", condition, f, got)
			}
		}
	}
}

func TestMetByHand(t *testing.T) {
	for k, flag := range []byte{api.FlagZ, api.FlagC, api.FlagP, api.FlagS} {
		for _, f := range []byte{flag, 255} {
			if regs.Met(f, 2*k) || !regs.Met(f, 2*k+1) {
				t.Errorf("the conditions %d and %d with %08b", 2*k, 2*k+1, f)
			}
		}
		for _, f := range []byte{0, 255 - flag} {
			if !regs.Met(f, 2*k) || regs.Met(f, 2*k+1) {
				t.Errorf("the conditions %d and %d with %08b", 2*k, 2*k+1, f)
			}
		}
	}
}

// P2

func TestAskedAgainTheSameAnswer(t *testing.T) {
	type answer struct {
		pair                 uint16
		one                  byte
		index                int
		right, met           bool
		set, put, swap, tick api.Regs
	}
	type asked struct {
		r api.Regs
		n int
	}
	ask := func(q asked) answer {
		prefix := q.r.Prefix
		return answer{
			pair: regs.Pair(q.r, q.n), one: regs.One(q.r, q.n, prefix), index: regs.Index(prefix),
			right: regs.Right(q.r), met: regs.Met(q.r.F, q.n),
			set: regs.SetPair(q.r, q.n, 999), put: regs.SetOne(q.r, q.n, prefix, 99),
			swap: regs.Swap(q.r, q.n%2 == 0), tick: regs.Tick(q.r),
		}
	}
	var all []asked
	for _, r := range some() {
		for n := -2; n < 10; n++ {
			all = append(all, asked{r, n})
		}
	}
	first := map[asked]answer{}
	for _, q := range all {
		first[q] = ask(q)
	}
	// The other way round, so that other calls were before.
	for at := len(all) - 1; at >= 0; at-- {
		if got := ask(all[at]); got != first[all[at]] {
			t.Fatalf("%v: asked again, another answer: %v, not %v", all[at], got, first[all[at]])
		}
	}
	if r := regs.New(); r != (api.Regs{A: 255, F: 255, SP: 57328}) {
		t.Errorf("new, behind other calls: %v", r)
	}
}
