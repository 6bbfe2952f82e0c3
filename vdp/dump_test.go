package vdp_test

import (
	"bytes"
	"testing"

	"joystick/api"
	"joystick/vdp"
)

// P20.5 Dump and Load, and Errors

func TestDumpByCalls(t *testing.T) {
	v := vdp.New()
	setReg(v, 10, 200)
	setColor(v, 16, 44)
	lay(v, 0x100, 5)
	v.To(2*lineClocks + 3)
	want := make([]byte, dumpBytes)
	want[0x100], want[cramAt+16], want[regsAt+10] = 5, 44, 200
	copy(want[lowerAt:], []byte{1, 1, 1, 0, 0, 5})
	copy(want[screenAt+wide:], bytes.Repeat([]byte{44}, 2*wide))
	want[countAt], want[eventsAt] = 199, lineEvent
	want[nowAt], want[nowAt+1] = 203, 1
	same(t, v, want, "by calls")
	if len(v.Dump()) != api.VdpSize || api.VdpSize != dumpBytes {
		t.Error("VdpSize")
	}
}

func TestDumpOfEachEvent(t *testing.T) {
	v := vdp.New()
	v.Status()
	holdEvents(t, v, 0)
	v.To(lineClocks)
	holdEvents(t, v, lineEvent)
	setReg(v, 10, 255)
	v.To(2 * lineClocks)
	v.Status()
	v.To(192 * lineClocks)
	holdEvents(t, v, frameEvent)
	v.Status()
	nine(v, 9, 9, 0)
	v.To(frameClocks + 10*lineClocks)
	holdEvents(t, v, overflowEvent)
	nine(v, 9, 2, 255)
	v.Status()
	v.To(frameClocks + 11*lineClocks)
	holdEvents(t, v, collisionEvent)
}

// holdEvents holds the Dump's byte of Events.
func holdEvents(t *testing.T, v *vdp.Vdp, want byte) {
	t.Helper()
	if _, events := eventsOf(v); events != want {
		t.Error("the events", events, "instead of", want)
	}
}

func TestDumpHasNowModuloAFrame(t *testing.T) {
	v := vdp.New()
	for _, now := range []int{1, 255, 256, 257, 59735, 59736, 59737, 2*59736 - 1, 2 * 59736, 2*59736 + 1000, 5*59736 + 40000} {
		v.To(now)
		d, want := v.Dump(), make([]byte, dumpBytes)
		setNow(want, now%59736)
		if !bytes.Equal(d[nowAt:], want[nowAt:]) {
			t.Error("NOW", now, d[nowAt:])
		}
		if w := loaded(t, d); w.Now() != now%59736 || v.Now() != now {
			t.Error("NOW", now, "loaded as", w.Now())
		}
	}
}

func TestDumpAndLoadOfAnyState(t *testing.T) {
	for events := range 16 {
		for _, now := range []int{0, 1, 227, 228, 10000, 43775, 43776, 59507, 59508, 59735} {
			d := mixed()
			d[countAt], d[eventsAt] = byte(events*17), byte(events)
			setNow(d, now)
			v := loaded(t, d)
			hold(t, v, modelOf(t, d), "the events", events, "NOW", now)
			same(t, loaded(t, v.Dump()), d, "the events", events, "NOW", now)
		}
	}
}

func TestItGoesOnInAnother(t *testing.T) {
	v := vdp.New()
	nine(v, 20, 9, 255)
	setColor(v, 21, 9)
	setReg(v, 10, 11)
	for frame := range 3 {
		v.To(frame*frameClocks + 22*lineClocks + 7)
		w := loaded(t, v.Dump())
		from := v.Now() - w.Now()
		for _, more := range []int{1, 228, 5000, frameClocks} {
			v.To(v.Now() + more)
			w.To(w.Now() + more)
			same(t, w, v.Dump(), "behind", more)
			if v.Now()-w.Now() != from || v.Wait() != w.Wait() || v.Asks() != w.Asks() || v.Status() != w.Status() {
				t.Error("they go on differently")
			}
		}
	}
}

func TestNothingBeginsAtALoad(t *testing.T) {
	for _, now := range []int{0, 228, 192 * 228, 261 * 228} {
		d := mixed()
		d[eventsAt], d[countAt] = 0, 0
		setNow(d, now)
		v := loaded(t, d)
		same(t, v, d, "NOW", now)
		v.To(now)
		same(t, v, d, "NOW", now, "To there")
		v.To(now + 227)
		setNow(d, now+227)
		same(t, v, d, "NOW", now, "To the LINE's end")
	}
}

func TestLoadLaysAllBack(t *testing.T) {
	v := loaded(t, mixed())
	v.To(4*frameClocks + 5)
	zeros := make([]byte, dumpBytes)
	if e := v.Load(zeros); e != api.OK || v.Now() != 0 {
		t.Fatal(e, v.Now())
	}
	same(t, v, zeros, "something of before is left")
	if v.Asks() || v.Status() != 31 {
		t.Error("something of before is told")
	}
}

func TestLoadOfOtherSizesChangesNothing(t *testing.T) {
	d := mixed()
	v := loaded(t, d)
	for _, n := range []int{0, 1, 4, 16432, 16433, 16434, 49152, 65585, 65587, 65590, 65592, 65593, 2 * 65591} {
		if e := v.Load(make([]byte, n)); e != api.ErrVdp {
			t.Errorf("%d bytes: %d", n, e)
		}
		same(t, v, d, n, "bytes: changed")
	}
	if v.Load(nil) != api.ErrVdp || v.Load(make([]byte, 65590, 65591)) != api.ErrVdp || v.Load(make([]byte, 5, 70000)) != api.ErrVdp {
		t.Error("nil or spare room is taken")
	}
	same(t, v, d, "changed")
}

// greatest tells how great a byte of a Dump may be, but for NOW's.
func greatest(at int) int {
	switch {
	case at >= cramAt && at < regsAt, at == lowerAt+1, at >= screenAt && at < countAt:
		return 63
	case at == lowerAt+2:
		return 3
	case at == secondAt:
		return 1
	case at == eventsAt:
		return 15
	}
	return 255
}

func TestLoadOfBytesAsGreatAsTheyMayBe(t *testing.T) {
	d := make([]byte, dumpBytes)
	for at := range nowAt {
		d[at] = byte(greatest(at))
	}
	setNow(d, frameClocks-1)
	v := loaded(t, d)
	same(t, v, d, "the greatest")
	if v.Now() != 59735 {
		t.Error("NOW:", v.Now())
	}
}

// holdBad holds that a Dump with that byte isn't taken.
func holdBad(t *testing.T, v *vdp.Vdp, d []byte, at, value int) {
	t.Helper()
	was := d[at]
	d[at] = byte(value)
	if e := v.Load(d); e != api.ErrVdp {
		t.Fatal("the byte", at, "of", value, "is taken:", e)
	}
	d[at] = was
}

func TestLoadOfBytesThatAreTooGreatChangesNothing(t *testing.T) {
	d, other := mixed(), make([]byte, dumpBytes)
	v := loaded(t, d)
	v.To(2*frameClocks + 5000)
	before, now := v.Dump(), v.Now()
	for at := cramAt; at < nowAt; at++ {
		most := greatest(at)
		if most == 255 {
			continue
		}
		values := []int{most + 1, 255}
		if at < screenAt+300 || at > countAt-300 {
			for value := most + 2; value < 255; value += 7 {
				values = append(values, value)
			}
		}
		for _, value := range values {
			holdBad(t, v, other, at, value)
		}
	}
	for value := range 240 {
		holdBad(t, v, other, eventsAt, 16+value)
	}
	same(t, v, before, "changed")
	if v.Now() != now {
		t.Error("NOW:", v.Now())
	}
}

func TestLoadOfNow(t *testing.T) {
	v := loaded(t, mixed())
	before := v.Dump()
	for _, now := range []int{59736, 59737, 59738, 60000, 65535, 65536, 65537, 131072, 1 << 24, 1<<24 + 5, 1 << 31, 1<<31 - 1, 1<<31 + 1, 1<<32 - 1, 1<<32 - 228, 1<<32 - 59736} {
		d := make([]byte, dumpBytes)
		setNow(d, now)
		if e := v.Load(d); e != api.ErrVdp {
			t.Error("NOW", now, "is taken:", e)
		}
		same(t, v, before, "NOW", now, "changed something")
	}
	for now := 0; now < 59736; now += 107 {
		d := make([]byte, dumpBytes)
		setNow(d, now)
		if e := v.Load(d); e != api.OK || v.Now() != now {
			t.Error("NOW", now, e, v.Now())
		}
	}
}

func TestWhatIsLoadedIsNeitherKeptNorChanged(t *testing.T) {
	d := mixed()
	room := append(bytes.Clone(d), 7, 8, 9)
	before := bytes.Clone(room)
	v := loaded(t, room[:dumpBytes])
	setReg(v, 0, 99)
	setColor(v, 16, 9)
	lay(v, 0, 1, 2, 3)
	v.To(frameClocks)
	v.Status()
	if !bytes.Equal(room, before) {
		t.Error("changed")
	}
	after := v.Dump()
	for n := range room {
		room[n] ^= 255
	}
	same(t, v, after, "kept")
}
