package vdp_test

import (
	"bytes"
	"math/rand"
	"testing"

	"joystick/api"
	"joystick/dots"
	"joystick/event"
	"joystick/line"
	"joystick/port"
	"joystick/vdp"
)

// The chapter's numbers, written out, so that a wrong one in the package isn't followed.
const (
	lineClocks  = 228
	frameClocks = 59736
	lines       = 262
	shown       = 192
	wide        = 256
	screenAt    = 16433 // where the parts are in a Dump
	countAt     = 65585
	eventsAt    = 65586
	nowAt       = 65587
	dumpBytes   = 65591
)

// The events, as a Dump's byte has them.
const (
	lineEvent      = 1
	frameEvent     = 2
	overflowEvent  = 4
	collisionEvent = 8
)

// What of a port's Dump may not be any byte is from here on: the CRAM, and behind REGS what tells where and what.
const (
	cramAt   = 16384
	regsAt   = 16416
	lowerAt  = 16427
	secondAt = 16431
)

// model is a chip on which the chapter's words are done, one clock after the other.
type model struct {
	p      *port.Port
	e      api.Events
	now    int
	screen [shown * wide]byte
}

// newModel is a chip that is New.
func newModel() *model {
	m := &model{p: port.New()}
	m.begin(0)
	return m
}

// begin is what the chapter says of a line that begins.
func (m *model) begin(n int) {
	if n < shown {
		p := line.Draw(m.p.Vram(), m.p.Cram(), m.p.Regs(), n)
		for x, color := range p.Color {
			m.screen[n*wide+x] = color
		}
		m.e = event.Drawn(m.e, p.Overflow, p.Collision)
	}
	m.e = event.Start(m.e, n, m.p.Regs()[10])
}

// to passes each clock by itself.
func (m *model) to(t int) {
	for m.now < t {
		m.now++
		if over := m.now % frameClocks; over%lineClocks == 0 {
			m.begin(over / lineClocks)
		}
	}
}

// status is what the chapter says of Status.
func (m *model) status() byte {
	m.p.Forget()
	told, left := event.Status(m.e)
	m.e = left
	return told
}

// wait begins lines, till something is new.
func (m *model) wait() int {
	e, t := m.e, m.now
	for range 3 * lines {
		t += lineClocks - t%frameClocks%lineClocks
		was := e
		e = event.Start(e, t%frameClocks/lineClocks, m.p.Regs()[10])
		if e.Line && !was.Line || e.Frame && !was.Frame {
			return t - m.now
		}
	}
	return 0
}

// dump is what the chapter says of Dump.
func (m *model) dump() []byte {
	d := append(m.p.Dump(), m.screen[:]...)
	d = append(d, m.e.Count, 0)
	for n, on := range []bool{m.e.Line, m.e.Frame, m.e.Overflow, m.e.Collision} {
		if on {
			d[eventsAt] += []byte{1, 2, 4, 8}[n]
		}
	}
	now := m.now % frameClocks
	return append(d, byte(now%256), byte(now/256%256), byte(now/65536), 0)
}

// hold holds all that a chip tells, and changes nothing by it, against the model.
func hold(t *testing.T, v *vdp.Vdp, m *model, about ...any) {
	t.Helper()
	same(t, v, m.dump(), about...)
	if v.Now() != m.now {
		t.Fatal(about, "Now:", v.Now(), "instead of", m.now)
	}
	if !bytes.Equal(v.Screen(), m.screen[:]) {
		t.Fatal(about, "Screen")
	}
	if got, want := v.Wait(), m.wait(); got != want {
		t.Fatal(about, "Wait:", got, "instead of", want)
	}
	if got, want := v.Asks(), event.Asks(m.e, m.p.Reg(0), m.p.Reg(1)); got != want {
		t.Fatal(about, "Asks:", got)
	}
	a, b := v.Counters()
	if a != dots.V(dots.Line(m.now)) || b != dots.H(dots.Dot(m.now)) {
		t.Fatal(about, "Counters:", a, b)
	}
}

// same holds a chip's Dump against bytes; if they differ, it says where.
func same(t *testing.T, v *vdp.Vdp, want []byte, about ...any) {
	t.Helper()
	got := v.Dump()
	if bytes.Equal(got, want) {
		return
	}
	if len(got) != len(want) {
		t.Fatal(about, "a Dump of", len(got), "bytes")
	}
	for n := range got {
		if got[n] != want[n] {
			t.Fatalf("%v: the Dump's byte %d is %d instead of %d", about, n, got[n], want[n])
		}
	}
}

// mixed tells a Dump of which no part is as another one, nor as a new chip's: line 44, in the middle.
func mixed() []byte {
	d := make([]byte, dumpBytes)
	dice := rand.New(rand.NewSource(20))
	dice.Read(d)
	for n := cramAt; n < regsAt; n++ {
		d[n] %= 64
	}
	copy(d[regsAt:], []byte{0x16, 0x62, 0xFF, 0xFF, 0xFF, 0xFF, 0xFB, 3, 17, 29, 9})
	copy(d[lowerAt:], []byte{0xC5, 0x2A, 1, 0x9C, 0, 0xE7})
	for n := screenAt; n < countAt; n++ {
		d[n] %= 64
	}
	copy(d[countAt:], []byte{77, overflowEvent | lineEvent})
	setNow(d, 44*lineClocks+100)
	return d
}

// setNow lays a NOW into a Dump.
func setNow(d []byte, now int) {
	d[nowAt], d[nowAt+1], d[nowAt+2], d[nowAt+3] = byte(now%256), byte(now/256%256), byte(now/65536%256), byte(now/16777216)
}

// loaded tells a chip that has taken those bytes.
func loaded(t *testing.T, d []byte) *vdp.Vdp {
	t.Helper()
	v := vdp.New()
	if e := v.Load(d); e != api.OK {
		t.Fatal("Load:", e)
	}
	return v
}

// modelOf tells the model of a Dump.
func modelOf(t *testing.T, d []byte) *model {
	t.Helper()
	m := &model{p: port.New()}
	if e := m.p.Load(d[:screenAt]); e != api.OK {
		t.Fatal("Load:", e)
	}
	copy(m.screen[:], d[screenAt:])
	told := d[eventsAt]
	m.e = api.Events{Count: d[countAt], Line: told%2 == 1, Frame: told/2%2 == 1, Overflow: told/4%2 == 1, Collision: told/8 == 1}
	m.now = int(d[nowAt]) + 256*int(d[nowAt+1]) + 65536*int(d[nowAt+2])
	return m
}

// setReg sets one of a chip's registers.
func setReg(v *vdp.Vdp, n int, w byte) {
	v.Tell(w)
	v.Tell(128 + byte(n))
}

// setColor sets one of a chip's colors.
func setColor(v *vdp.Vdp, n int, w byte) {
	v.Tell(byte(n))
	v.Tell(192)
	v.Data(w)
}

// lay writes bytes into a chip's memory, from a place on.
func lay(v *vdp.Vdp, at int, l ...byte) {
	v.Tell(byte(at % 256))
	v.Tell(64 + byte(at/256))
	for _, w := range l {
		v.Data(w)
	}
}
