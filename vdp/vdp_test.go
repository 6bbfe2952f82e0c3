package vdp_test

import (
	"bytes"
	"math"
	"math/rand"
	"slices"
	"testing"

	"joystick/api"
	"joystick/port"
	"joystick/vdp"
)

// row tells one line of a chip's SCREEN.
func row(v *vdp.Vdp, n int) []byte { return v.Screen()[n*wide : n*wide+wide] }

// allOf tells whether there are bytes, and all of them are that one.
func allOf(l []byte, color byte) bool {
	return len(l) > 0 && bytes.Count(l, []byte{color}) == len(l)
}

// eventsOf tells the Events' bytes of a chip's Dump.
func eventsOf(v *vdp.Vdp) (count, events byte) {
	d := v.Dump()
	return d[countAt], d[eventsAt]
}

// P20.1 New and Now

func TestNew(t *testing.T) {
	v := vdp.New()
	want := make([]byte, dumpBytes)
	want[eventsAt] = lineEvent // of the LINE 0, which has begun with a Count of 0
	same(t, v, want, "New")
	if v.Now() != 0 {
		t.Error("Now:", v.Now())
	}
	if len(v.Screen()) != 49152 || !allOf(v.Screen(), 0) {
		t.Error("the SCREEN isn't all 0")
	}
	if v.Wait() != 192*lineClocks {
		t.Error("Wait:", v.Wait())
	}
	hold(t, v, newModel(), "New")
}

func TestLine0OfANewOneHasBegun(t *testing.T) {
	v := vdp.New()
	if v.Asks() {
		t.Error("it asks, and nothing lets it")
	}
	setReg(v, 0, 16)
	if !v.Asks() {
		t.Error("the LINE 0 doesn't ask")
	}
	if s := v.Status(); s != 31 || v.Asks() {
		t.Error("Status:", s, v.Asks())
	}
}

func TestNowIsWhatToSays(t *testing.T) {
	v := vdp.New()
	for _, now := range []int{1, 2, 227, 228, 229, 1000, 59735, 59736, 59737, 200000} {
		v.To(now)
		if v.Now() != now {
			t.Error(v.Now(), "instead of", now)
		}
	}
}

// P20.2 To

func TestToOfWhatIsOver(t *testing.T) {
	for _, now := range []int{0, 1, 100, 227, 228, 5000, 59736, 130000} {
		v := vdp.New()
		v.To(now)
		before := v.Dump()
		setColor(v, 16, 5)
		v.Status()
		during := v.Dump()
		for _, back := range []int{now, now - 1, now - 228, now - 59736, 0, -1, -228, -59736, math.MinInt32, math.MinInt, math.MinInt + 1, math.MinInt + 228, math.MinInt + now, math.MinInt + now - 1} {
			if back > now { // far below 0 it began anew
				continue
			}
			v.To(back)
			same(t, v, during, now, "To", back)
			if v.Now() != now {
				t.Fatal("NOW", now, "To", back, "is", v.Now())
			}
		}
		if bytes.Equal(before, during) {
			t.Fatal("nothing was told apart")
		}
	}
}

func TestExample(t *testing.T) {
	v := vdp.New()
	v.Status()
	setReg(v, 10, 7)
	v.To(227)
	if count, events := eventsOf(v); count != 0 || events != 0 {
		t.Error("ahead of the LINE 1:", count, events)
	}
	v.To(228)
	if count, events := eventsOf(v); count != 7 || events != lineEvent {
		t.Error("at the LINE 1:", count, events)
	}
}

func TestEachLineIsDrawnWhereItBegins(t *testing.T) {
	v := vdp.New()
	want := v.Screen()
	for n := 1; n < 2*lines+5; n++ {
		v.To(n*lineClocks - 1)
		color := byte(n%63 + 1)
		setColor(v, 16, color)
		if !bytes.Equal(v.Screen(), want) {
			t.Fatal("a LINE is drawn ahead of the LINE", n)
		}
		v.To(n * lineClocks)
		if at := n % lines; at < shown {
			copy(want[at*wide:], bytes.Repeat([]byte{color}, wide))
		}
		if !bytes.Equal(v.Screen(), want) {
			t.Fatal("the LINE", n, "isn't drawn, or another one is")
		}
	}
}

func TestAColorInTheMiddleIsSeenFromTheNextLineOn(t *testing.T) {
	v := vdp.New()
	setColor(v, 16, 1)
	v.To(5 * lineClocks)
	setColor(v, 16, 2) // at the beginning's clock, but behind it
	v.To(6*lineClocks + 1)
	setColor(v, 16, 3)
	v.To(7*lineClocks - 1)
	setColor(v, 16, 4)
	v.To(9 * lineClocks)
	for n, color := range []byte{0, 1, 1, 1, 1, 1, 2, 4, 4, 4, 0, 0} {
		if !allOf(row(v, n), color) {
			t.Error("the LINE", n, "has", row(v, n)[0], "instead of", color)
		}
	}
}

func TestRegistersAndMemoryAreSeenFromTheNextLineOn(t *testing.T) {
	v := vdp.New()
	setColor(v, 17, 9)
	setColor(v, 1, 33)
	setColor(v, 2, 34)
	setReg(v, 2, 14)
	setReg(v, 5, 126)
	lay(v, 0, 255, 0, 0, 0, 255, 0, 0, 0, 255, 0, 0, 0, 255, 0, 0, 0, 255, 0, 0, 0, 255, 0, 0, 0, 255, 0, 0, 0, 255)
	lay(v, 16128, 208) // no sprites
	v.To(1*lineClocks + 5)
	setReg(v, 7, 1)
	v.To(2*lineClocks + 5)
	setReg(v, 1, 64)
	v.To(3*lineClocks + 5)
	lay(v, 16, 0, 255)
	v.To(5 * lineClocks)
	for n, color := range []byte{0, 0, 9, 33, 34, 33} {
		if !allOf(row(v, n), color) {
			t.Error("the LINE", n, "has", row(v, n)[0], "instead of", color)
		}
	}
}

func TestADrawnLineHasItsPlaceOnTheScreen(t *testing.T) {
	v := vdp.New()
	setColor(v, 16, 7)
	setColor(v, 21, 40)
	setReg(v, 0, 32)
	setReg(v, 1, 64)
	setReg(v, 2, 14)
	setReg(v, 5, 126)
	lay(v, 32, 255, 0, 255) // the tile 1's first line
	lay(v, 16128, 99, 208)
	lay(v, 16128+128, 31, 1)
	v.To(frameClocks - 1)
	want := make([]byte, 49152)
	for n := 1; n < shown; n++ {
		copy(want[n*wide:], bytes.Repeat([]byte{7}, 8))
	}
	copy(want[100*wide+31:], bytes.Repeat([]byte{40}, 8))
	if !bytes.Equal(v.Screen(), want) {
		t.Error("it isn't drawn, or isn't there")
	}
}

// nine lays nine sprites, of the tile 1, which is nothing or a block, on the lines from y + 1 on, all of them at one place.
func nine(v *vdp.Vdp, y byte, many int, block byte) {
	setReg(v, 1, 64)
	setReg(v, 2, 14)
	setReg(v, 5, 126)
	lay(v, 32, bytes.Repeat([]byte{block, 0, 0, 0}, 8)...)
	lay(v, 16128, append(bytes.Repeat([]byte{y}, many), 208)...)
	lay(v, 16128+128, bytes.Repeat([]byte{50, 1}, many)...)
}

func TestOverflowAndCollisionAreToldWithTheirLine(t *testing.T) {
	for _, k := range []struct {
		many  int
		block byte
		want  byte
	}{{8, 0, 31}, {9, 0, 31 + 64}, {1, 255, 31}, {2, 255, 31 + 32}, {8, 255, 31 + 32}, {9, 255, 31 + 64 + 32}} {
		v := vdp.New()
		nine(v, 99, k.many, k.block)
		v.To(100*lineClocks - 1)
		if s := v.Status(); s != 31 {
			t.Error(k, "ahead of the LINE 100:", s)
		}
		for n := 100; n < 108; n++ {
			v.To(n * lineClocks)
			if s := v.Status(); s != k.want {
				t.Error(k, "the LINE", n, s)
			}
			v.To((n+1)*lineClocks - 1)
			if s := v.Status(); s != 31 {
				t.Error(k, "behind the LINE", n, s)
			}
		}
		v.To(192*lineClocks - 1)
		if s := v.Status(); s != 31 {
			t.Error(k, "behind the LINE 107:", s)
		}
	}
}

func TestWhatIsToldStaysTillStatus(t *testing.T) {
	v := vdp.New()
	nine(v, 9, 9, 255)
	v.To(17 * lineClocks)
	nine(v, 200, 9, 255)
	v.To(frameClocks)
	if s := v.Status(); s != 255 {
		t.Error("Status:", s)
	}
	v.To(frameClocks + 192*lineClocks - 1)
	if s := v.Status(); s != 31 {
		t.Error("Status:", s)
	}
}

func TestAHiddenPictureTellsNothing(t *testing.T) {
	v := vdp.New()
	nine(v, 9, 9, 255)
	setReg(v, 1, 0)
	v.To(frameClocks - 1)
	if s := v.Status(); s != 31+128 {
		t.Error("Status:", s)
	}
}

func TestFrameIsToldOfTheLine192(t *testing.T) {
	v := vdp.New()
	setReg(v, 1, 32)
	for frame := range 3 {
		v.To(frame*frameClocks + 192*lineClocks - 1)
		if s := v.Status(); s != 31 || v.Asks() {
			t.Error("early:", frame, s)
		}
		v.To(frame*frameClocks + 192*lineClocks)
		if !v.Asks() {
			t.Error("late:", frame)
		}
		if s := v.Status(); s != 31+128 || v.Asks() {
			t.Error("late:", frame, s)
		}
	}
}

func TestLinesAreCounted(t *testing.T) {
	for _, reload := range []byte{0, 1, 2, 5, 100, 191, 192, 193, 255} {
		v := vdp.New()
		setReg(v, 0, 16)
		setReg(v, 10, reload)
		v.Status()
		count, want := 0, []int{} // lines of three frames that tell
		for n := 1; n < 3*lines; n++ {
			switch {
			case n%lines > 192:
				count = int(reload)
			case count == 0:
				count = int(reload)
				want = append(want, n)
			default:
				count--
			}
		}
		var got []int
		for n := 1; n < 3*lines; n++ {
			v.To(n*lineClocks - 1)
			if v.Asks() {
				t.Fatal("of", reload, "ahead of the LINE", n)
			}
			v.To(n * lineClocks)
			if v.Asks() {
				got = append(got, n)
			}
			v.Status()
		}
		if !slices.Equal(got, want) {
			t.Error("of", reload, got, "instead of", want)
		}
	}
}

func TestTheReloadIsThatOfTheLinesBeginning(t *testing.T) {
	v := vdp.New()
	setReg(v, 10, 3)
	v.To(lineClocks)
	setReg(v, 10, 9)
	v.To(4 * lineClocks)
	if count, _ := eventsOf(v); count != 0 {
		t.Error("the LINE 4:", count)
	}
	v.To(5 * lineClocks)
	if count, _ := eventsOf(v); count != 9 {
		t.Error("the LINE 5:", count)
	}
	setReg(v, 10, 200)
	v.To(193*lineClocks - 1)
	if count, _ := eventsOf(v); count == 200 {
		t.Error("the LINE 192:", count)
	}
	v.To(193 * lineClocks)
	if count, _ := eventsOf(v); count != 200 {
		t.Error("the LINE 193:", count)
	}
	setReg(v, 10, 50)
	v.To(frameClocks - 1)
	if count, _ := eventsOf(v); count != 50 {
		t.Error("the LINE 261:", count)
	}
}

func TestToAtOnceIsToInPieces(t *testing.T) {
	dice := rand.New(rand.NewSource(21))
	const end = 3*frameClocks + 77*lineClocks + 5
	whole := loaded(t, mixed())
	whole.To(end)
	want := whole.Dump()
	for _, most := range []int{7, 228, 229, 456, 5000, 59736, 100000} {
		v := loaded(t, mixed())
		for v.Now() < end {
			v.To(min(end, v.Now()+1+dice.Intn(most)))
		}
		same(t, v, want, "pieces of at most", most)
		if v.Now() != end || whole.Now() != end {
			t.Error(v.Now(), whole.Now())
		}
	}
}

func TestToOfAnythingGoesAsTheWordsSay(t *testing.T) {
	for n := range 60 {
		d := mixed()
		dice := rand.New(rand.NewSource(int64(n)))
		dice.Read(d[:cramAt])
		dice.Read(d[regsAt:lowerAt])
		d[countAt], d[eventsAt] = byte(dice.Intn(256)), byte(dice.Intn(16))
		setNow(d, dice.Intn(frameClocks))
		v, m := loaded(t, d), modelOf(t, d)
		for _, more := range []int{dice.Intn(300), 228, dice.Intn(5000), dice.Intn(2 * frameClocks)} {
			to := v.Now() + more
			v.To(to)
			m.to(to)
			hold(t, v, m, "the dice", n, "To", to)
		}
	}
}

// P20.3 Data, Take, Tell, Status, Counters, Asks and Wait

func TestDataTakeAndTellAreThePorts(t *testing.T) {
	d := mixed()
	v, p := loaded(t, d), port.New()
	if p.Load(d[:screenAt]) != api.OK {
		t.Fatal("Load")
	}
	dice := rand.New(rand.NewSource(22))
	for n := range 30000 {
		w := byte(dice.Intn(256))
		switch dice.Intn(7) {
		case 0, 1, 2:
			v.Tell(w)
			p.Control(w)
		case 3, 4:
			v.Data(w)
			p.Write(w)
		case 5:
			if got, want := v.Take(), p.Read(); got != want {
				t.Fatal("the call", n, "Take:", got, "instead of", want)
			}
		case 6:
			v.Status()
			p.Forget()
			d[eventsAt] = 0
		}
		if n%301 == 0 {
			same(t, v, append(p.Dump(), d[screenAt:]...), "behind the call", n)
		}
	}
	if v.Now() != 44*lineClocks+100 {
		t.Error("NOW is another one:", v.Now())
	}
}

func TestDataTakeAndTellByHand(t *testing.T) {
	v := vdp.New()
	lay(v, 0x1234, 11, 12)
	v.Tell(0x34)
	v.Tell(0x12)
	if a, b, c := v.Take(), v.Take(), v.Take(); a != 11 || b != 12 || c != 0 {
		t.Error("Take:", a, b, c)
	}
	setReg(v, 7, 200)
	setColor(v, 3, 255)
	d := v.Dump()
	if d[0x1234] != 11 || d[0x1235] != 12 || d[cramAt+3] != 63 || d[regsAt+7] != 200 {
		t.Error("the Port's bytes:", d[0x1234:0x1236], d[cramAt:lowerAt])
	}
}

func TestStatusOfAllEvents(t *testing.T) {
	for events := range 16 {
		for _, second := range []byte{0, 1} {
			d := mixed()
			d[eventsAt], d[secondAt] = byte(events), second
			v := loaded(t, d)
			want := byte(31)
			if events&frameEvent != 0 {
				want += 128
			}
			if events&overflowEvent != 0 {
				want += 64
			}
			if events&collisionEvent != 0 {
				want += 32
			}
			if s := v.Status(); s != want {
				t.Error(events, "Status:", s, "instead of", want)
			}
			d[eventsAt], d[secondAt] = 0, 0
			same(t, v, d, events, "behind Status")
			if s := v.Status(); s != 31 {
				t.Error(events, "Status once more:", s)
			}
		}
	}
}

func TestStatusForgetsTheFirstByte(t *testing.T) {
	v := vdp.New()
	v.Tell(5)
	v.Status()
	setReg(v, 3, 77)
	if d := v.Dump(); d[regsAt+3] != 77 {
		t.Error("a SECOND was awaited still:", d[regsAt:lowerAt])
	}
}

func TestStatusAheadOfTheFrame(t *testing.T) {
	v := vdp.New()
	setReg(v, 1, 32)
	v.To(192 * lineClocks)
	v.Status() // it isn't asked any more
	v.To(frameClocks + 192*lineClocks - 1)
	if v.Asks() {
		t.Error("it asks, though it was told")
	}
}

func TestCountersOfEachClock(t *testing.T) {
	v := vdp.New()
	for now := range frameClocks + 1000 {
		v.To(now)
		at, over := now%frameClocks/lineClocks, now%frameClocks%lineClocks
		if at > 218 {
			at -= 6
		}
		half := over * 3 / 4
		if half > 147 {
			half += 85
		}
		if a, b := v.Counters(); int(a) != at || int(b) != half {
			t.Fatal("at the clock", now, a, b, "instead of", at, half)
		}
	}
}

func TestAsksOfAllRegisters(t *testing.T) {
	for events := range 16 {
		d := mixed()
		d[eventsAt] = byte(events)
		for value := range 256 {
			for _, other := range []byte{0, 255} {
				for _, n := range []int{0, 1} {
					copy(d[regsAt:], bytes.Repeat([]byte{other}, 11))
					d[regsAt], d[regsAt+1] = 0, 0
					d[regsAt+n] = byte(value)
					want := n == 0 && value/16%2 == 1 && events&lineEvent != 0 || n == 1 && value/32%2 == 1 && events&frameEvent != 0
					if v := loaded(t, d); v.Asks() != want {
						t.Fatal("the events", events, "the register", n, "of", value, v.Asks())
					}
				}
			}
		}
	}
}

func TestWaitByHand(t *testing.T) {
	for _, k := range []struct {
		now           int
		count, events byte
		reload        byte
		want          int
	}{
		{0, 0, 0, 0, 228},
		{0, 0, lineEvent, 0, 192 * 228},
		{0, 0, frameEvent, 0, 228},
		{0, 0, lineEvent + frameEvent, 0, 0},
		{0, 0, overflowEvent + collisionEvent, 0, 228},
		{0, 0, 15, 0, 0},
		{1, 0, 0, 0, 227},
		{227, 0, 0, 0, 1},
		{228, 0, 0, 0, 228},
		{100, 3, 0, 0, 4*228 - 100},
		{100, 190, 0, 0, 191*228 - 100},
		{100, 191, 0, 0, 192*228 - 100},
		{100, 192, 0, 0, 192*228 - 100},
		{100, 192, frameEvent, 7, 262*228 + 7*228 - 100},
		{100, 192, frameEvent, 192, 262*228 + 192*228 - 100},
		{100, 192, frameEvent, 193, 0},
		{191*228 + 227, 5, 0, 0, 1},
		{192 * 228, 5, 0, 3, 70*228 + 3*228},
		{192 * 228, 5, frameEvent, 3, 70*228 + 3*228},
		{192 * 228, 5, lineEvent, 3, 262 * 228},
		{261 * 228, 0, 0, 9, 228},
		{261*228 + 227, 0, 0, 9, 1},
		{261*228 + 227, 1, 0, 9, 229},
		{261*228 + 227, 0, lineEvent, 9, 192*228 + 1},
		{260*228 + 1, 0, 0, 9, 227 + 228 + 9*228},
	} {
		d := mixed()
		setNow(d, k.now)
		d[countAt], d[eventsAt], d[regsAt+10] = k.count, k.events, k.reload
		if got := loaded(t, d).Wait(); got != k.want {
			t.Error(k, "Wait:", got)
		}
	}
}

func TestWaitOfAnything(t *testing.T) {
	dice := rand.New(rand.NewSource(23))
	d := mixed()
	for range 3000 {
		setNow(d, dice.Intn(frameClocks))
		if dice.Intn(3) == 0 {
			setNow(d, dice.Intn(lines)*lineClocks)
		}
		d[countAt], d[eventsAt], d[regsAt+10] = byte(dice.Intn(256)), byte(dice.Intn(16)), byte(dice.Intn(256))
		if v, m := loaded(t, d), modelOf(t, d); v.Wait() != m.wait() {
			t.Fatal("at", m.now, m.e, d[regsAt+10], v.Wait(), "instead of", m.wait())
		}
	}
}

func TestWaitEndsWhereSomethingIsNew(t *testing.T) {
	dice := rand.New(rand.NewSource(24))
	d := mixed()
	for range 100 {
		setNow(d, dice.Intn(frameClocks))
		d[countAt], d[eventsAt], d[regsAt+10] = byte(dice.Intn(256)), byte(dice.Intn(4)), byte(dice.Intn(256))
		v := loaded(t, d)
		n := v.Wait()
		if n == 0 {
			n = 2 * frameClocks
			v.To(v.Now() + n)
			if _, events := eventsOf(v); events%4 != d[eventsAt] {
				t.Error("something is new, though it was never to be:", d[eventsAt], events)
			}
			continue
		}
		now := v.Now()
		v.To(now + n - 1)
		_, ahead := eventsOf(v)
		v.To(now + n)
		_, there := eventsOf(v)
		if ahead%4 != d[eventsAt] || there%4 == ahead%4 {
			t.Error("at", now, "Wait:", n, "but the events are", d[eventsAt], ahead, there)
		}
	}
}

func TestWaitTakesTheRegisterAsItIs(t *testing.T) {
	v := vdp.New()
	v.To(200 * lineClocks)
	v.Status()
	setReg(v, 10, 4)
	if n := v.Wait(); n != 62*lineClocks+4*lineClocks {
		t.Error("Wait:", n)
	}
	setReg(v, 10, 60)
	if n := v.Wait(); n != 62*lineClocks+60*lineClocks {
		t.Error("Wait:", n)
	}
	v.To(3*frameClocks - 1)
	v.Status()
	if n := v.Wait(); n != 1+60*lineClocks {
		t.Error("of a later frame:", n)
	}
}

// P20.4 Screen and Back

func TestScreenIsAllOfIt(t *testing.T) {
	d := mixed()
	v := loaded(t, d)
	if !bytes.Equal(v.Screen(), d[screenAt:countAt]) {
		t.Error("the SCREEN isn't what it was loaded as")
	}
}

func TestBackOfWholeFrames(t *testing.T) {
	v := vdp.New()
	v.To(3*frameClocks + 500)
	d := v.Dump()
	for _, k := range []struct{ clocks, now int }{{0, 3*frameClocks + 500}, {frameClocks, 2*frameClocks + 500}, {0, 2*frameClocks + 500}, {2 * frameClocks, 500}, {0, 500}} {
		if e := v.Back(k.clocks); e != api.OK || v.Now() != k.now {
			t.Error("Back of", k.clocks, e, v.Now())
		}
		same(t, v, d, "Back of", k.clocks)
	}
}

func TestBackDownToNothing(t *testing.T) {
	v := vdp.New()
	v.To(2 * frameClocks)
	if v.Back(2*frameClocks) != api.OK || v.Now() != 0 {
		t.Error(v.Now())
	}
	if v.Back(0) != api.OK || v.Back(frameClocks) != api.ErrVdp || v.Now() != 0 {
		t.Error(v.Now())
	}
}

func TestBackThatCantBe(t *testing.T) {
	for _, now := range []int{0, 1, 500, frameClocks - 1, frameClocks, 2*frameClocks - 1, 3*frameClocks + 228} {
		v := vdp.New()
		v.To(now)
		d := v.Dump()
		for _, clocks := range []int{
			-1, -228, -frameClocks, -2 * frameClocks, math.MinInt, math.MinInt + 1, math.MinInt / frameClocks * frameClocks, math.MinInt32,
			1, 2, 227, 228, 456, frameClocks - 228, frameClocks - 1, frameClocks + 1, frameClocks + 228, 2*frameClocks - 1, now + 1, now - now%frameClocks + frameClocks,
			4 * frameClocks, 1 << 32, math.MaxInt32, math.MaxInt, math.MaxInt / frameClocks * frameClocks,
		} {
			if clocks == now && now%frameClocks == 0 || clocks < now && clocks > 0 && clocks%frameClocks == 0 {
				continue
			}
			if e := v.Back(clocks); e != api.ErrVdp || v.Now() != now {
				t.Error("at", now, "Back of", clocks, e, v.Now())
			}
		}
		same(t, v, d, "at", now)
	}
}

func TestItGoesOnBehindBack(t *testing.T) {
	v, w := loaded(t, mixed()), loaded(t, mixed())
	v.To(2*frameClocks + 7*lineClocks - 1)
	w.To(2*frameClocks + 7*lineClocks - 1)
	if v.Back(2*frameClocks) != api.OK {
		t.Fatal("Back")
	}
	setColor(v, 16, 9)
	setColor(w, 16, 9)
	for _, more := range []int{1, 228, 500, frameClocks} {
		v.To(v.Now() + more)
		w.To(w.Now() + more)
		same(t, v, w.Dump(), "behind", more)
		if v.Now() != w.Now()-2*frameClocks || v.Wait() != w.Wait() {
			t.Error(v.Now(), w.Now(), v.Wait(), w.Wait())
		}
	}
}

// All calls, as the words say

func TestManyCallsGoAsTheWordsSay(t *testing.T) {
	dice := rand.New(rand.NewSource(25))
	v, m := vdp.New(), newModel()
	for n := range 20000 {
		w := byte(dice.Intn(256))
		switch dice.Intn(10) {
		case 0:
			to := m.now + dice.Intn(60)*dice.Intn(60) - 40
			v.To(to)
			m.to(to)
		case 1:
			if got, want := v.Status(), m.status(); got != want {
				t.Fatal("the call", n, "Status:", got, "instead of", want)
			}
		case 2, 3:
			v.Tell(w)
			m.p.Control(w)
		case 4:
			reg := 128 + byte(dice.Intn(11))
			for _, w := range []byte{w, reg} {
				v.Tell(w)
				m.p.Control(w)
			}
		case 5:
			if got, want := v.Take(), m.p.Read(); got != want {
				t.Fatal("the call", n, "Take:", got, "instead of", want)
			}
		case 6:
			if back := dice.Intn(3) * frameClocks; back <= m.now && v.Back(back) == api.OK {
				m.now -= back
			}
		default:
			v.Data(w)
			m.p.Write(w)
		}
		if n%50 == 0 {
			hold(t, v, m, "behind the call", n)
		}
	}
	hold(t, v, m, "at the end")
}

// P1, P2 and the rules that hold everywhere

func TestAskingChangesNothing(t *testing.T) {
	d := mixed()
	d[secondAt] = 1
	v := loaded(t, d)
	v.To(5*frameClocks + 9)
	before, now := v.Dump(), v.Now()
	for range 3 {
		v.Now()
		v.Counters()
		v.Asks()
		v.Wait()
		v.Screen()
		v.Dump()
	}
	same(t, v, before, "asked")
	if v.Now() != now {
		t.Error("NOW:", v.Now())
	}
}

func TestAnswersAreNewMemory(t *testing.T) {
	d := mixed()
	v := loaded(t, d)
	for name, ask := range map[string]func() []byte{"Screen": v.Screen, "Dump": v.Dump} {
		first, second := ask(), ask()
		want := bytes.Clone(second)
		clear(first[:cap(first)])
		if !bytes.Equal(second, want) {
			t.Error(name, "answers share memory")
		}
		same(t, v, d, name, "shares memory with the chip")
	}
}

func TestAnswersStayBehindOtherCalls(t *testing.T) {
	v := loaded(t, mixed())
	screen, dump := v.Screen(), v.Dump()
	wantScreen, wantDump := bytes.Clone(screen), bytes.Clone(dump)
	v.To(3 * frameClocks)
	lay(v, 0, bytes.Repeat([]byte{9}, 500)...)
	if v.Load(vdp.New().Dump()) != api.OK {
		t.Fatal("Load")
	}
	if !bytes.Equal(screen, wantScreen) || !bytes.Equal(dump, wantDump) {
		t.Error("an answer has changed")
	}
}

func TestChipsStandAlone(t *testing.T) {
	d := mixed()
	one, two := vdp.New(), loaded(t, d)
	setReg(one, 1, 99)
	setColor(one, 16, 9)
	one.To(3 * frameClocks)
	one.Status()
	same(t, two, d, "one chip tells of the other")
	same(t, vdp.New(), newModel().dump(), "a new one tells of the others")
}
