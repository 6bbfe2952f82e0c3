package port_test

import (
	"bytes"
	"testing"

	"joystick/api"
	"joystick/port"
)

// Where the parts are in a Dump.
const (
	cramAt    = 16384
	regsAt    = 16416
	lowerAt   = 16427
	higherAt  = 16428
	codeAt    = 16429
	lowAt     = 16430
	secondAt  = 16431
	bufferAt  = 16432
	dumpBytes = 16433
)

// model is a Dump of a port, on which the document's words are done.
type model []byte

func (m model) address() int { return int(m[lowerAt]) + 256*int(m[higherAt]) }

func (m model) setAddress(a int) {
	if a == 16384 {
		a = 0
	}
	m[lowerAt], m[higherAt] = byte(a%256), byte(a/256)
}

func (m model) control(v byte) {
	if m[secondAt] == 0 {
		m[lowAt], m[lowerAt], m[secondAt] = v, v, 1
		return
	}
	m[secondAt] = 0
	m[codeAt] = v / 64
	m.setAddress(int(v%64)*256 + int(m[lowAt]))
	if m[codeAt] == 0 {
		m[bufferAt] = m[m.address()]
		m.setAddress(m.address() + 1)
	}
	if m[codeAt] == 2 && v%16 < 11 {
		m[regsAt+int(v%16)] = m[lowAt]
	}
}

func (m model) write(v byte) {
	m[secondAt] = 0
	if m[codeAt] == 3 {
		m[cramAt+m.address()%32] = v % 64
	} else {
		m[m.address()] = v
	}
	m[bufferAt] = v
	m.setAddress(m.address() + 1)
}

func (m model) read() byte {
	m[secondAt] = 0
	v := m[bufferAt]
	m[bufferAt] = m[m.address()]
	m.setAddress(m.address() + 1)
	return v
}

// mixed tells a Dump of which no part is as another one, nor as a new port's.
func mixed() model {
	m := make(model, dumpBytes)
	for i := range cramAt {
		m[i] = byte(i*7 + i/256*13 + i/4096*29 + 5)
	}
	for i := range 32 {
		m[cramAt+i] = byte(i*11+9) % 64
	}
	for i := range 11 {
		m[regsAt+i] = byte(i*23 + 3)
	}
	copy(m[lowerAt:], []byte{0xC5, 0x2A, 1, 0x9C, 0, 0xE7})
	return m
}

// mixedAt tells such a Dump, with that CODE and ADDRESS.
func mixedAt(code byte, address int) model {
	m := mixed()
	m[codeAt] = code
	m.setAddress(address)
	return m
}

// clone tells the same once more.
func (m model) clone() model { return bytes.Clone(m) }

// loaded tells a port that has taken those bytes.
func loaded(t *testing.T, m model) *port.Port {
	t.Helper()
	p := port.New()
	if e := p.Load(m); e != api.OK {
		t.Fatal("Load:", e)
	}
	return p
}

// same tells whether the port's Dump is the model; if not, it says where it isn't.
func same(t *testing.T, p *port.Port, m model, about ...any) bool {
	t.Helper()
	d := p.Dump()
	if bytes.Equal(d, m) {
		return true
	}
	t.Error(about...)
	if len(d) != len(m) {
		t.Error(len(d), "bytes")
		return false
	}
	for i := range d {
		if d[i] != m[i] {
			t.Errorf("the Dump's byte %d is %d, not %d", i, d[i], m[i])
			break
		}
	}
	return false
}

// edges are addresses at which something ends or begins anew.
func edges() []int {
	return []int{0, 1, 31, 32, 33, 63, 64, 255, 256, 257, 0x1FFF, 0x2000, 0x2AC5, 0x3EFF, 0x3F00, 0x3FDF, 0x3FE0, 0x3FFE, 0x3FFF}
}
