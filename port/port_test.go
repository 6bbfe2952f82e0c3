package port_test

import (
	"bytes"
	"math"
	"testing"

	"joystick/port"
)

// tell hands a port bytes of Control, one by one.
func tell(p *port.Port, bytes ...byte) {
	for _, v := range bytes {
		p.Control(v)
	}
}

// P13.1

func TestNewIsAllNothing(t *testing.T) {
	p := port.New()
	same(t, p, make(model, 16433), "New")
	if len(p.Vram()) != 16384 || len(p.Cram()) != 32 || p.Regs() != [11]byte{} {
		t.Error("VRAM, CRAM or REGS")
	}
	for i, v := range p.Vram() {
		if v != 0 {
			t.Fatal("VRAM", i)
		}
	}
	for n := range 11 {
		if p.Reg(n) != 0 {
			t.Error("REGS", n)
		}
	}
	if p.Read() != 0 {
		t.Error("the BUFFER")
	}
}

func TestNewAwaitsNoSecond(t *testing.T) {
	p := port.New()
	p.Control(0x81)
	if p.Dump()[secondAt] != 1 {
		t.Error("the first byte is taken as a second one")
	}
	p.Control(0x83)
	if p.Reg(3) != 0x81 || p.Reg(1) != 0 {
		t.Error(p.Regs())
	}
}

func TestRegOfEachNumber(t *testing.T) {
	m := mixed()
	p := loaded(t, m)
	for n := range 11 {
		if p.Reg(n) != m[regsAt+n] || p.Regs()[n] != m[regsAt+n] {
			t.Error(n, p.Reg(n), p.Regs()[n], m[regsAt+n])
		}
	}
}

func TestRegOfNumbersThatAreNot(t *testing.T) {
	p := loaded(t, mixed())
	for _, n := range []int{-1, -2, -11, -16, -256, 11, 12, 15, 16, 17, 26, 128, 256, 257, 1 << 32, -1 << 32, math.MaxInt, math.MinInt} {
		if v := p.Reg(n); v != 0 {
			t.Error(n, v)
		}
	}
}

func TestVramAndCramAreAllOfThem(t *testing.T) {
	m := mixed()
	p := loaded(t, m)
	if !bytes.Equal(p.Vram(), m[:cramAt]) {
		t.Error("VRAM")
	}
	if !bytes.Equal(p.Cram(), m[cramAt:regsAt]) {
		t.Error("CRAM")
	}
}

func TestForgetChangesOnlySecond(t *testing.T) {
	for _, second := range []byte{0, 1} {
		m := mixed()
		m[secondAt] = second
		p := loaded(t, m)
		p.Forget()
		m[secondAt] = 0
		same(t, p, m, "SECOND", second)
	}
}

func TestForgetBetweenTheTwoBytes(t *testing.T) {
	for first := range 256 {
		m := mixed()
		p := loaded(t, m)
		p.Control(byte(first))
		p.Forget()
		m[lowAt], m[lowerAt] = byte(first), byte(first)
		same(t, p, m, "Forget behind", first)
		tell(p, 0x12, 0x81)
		if p.Reg(1) != 0x12 {
			t.Error(first, "Reg", p.Reg(1))
		}
	}
}

// P13.2

func TestFirstByteIsLowAndTheLowerHalf(t *testing.T) {
	for _, code := range []byte{0, 1, 2, 3} {
		for v := range 256 {
			m := mixedAt(code, 0x2AC5)
			p := loaded(t, m)
			p.Control(byte(v))
			m[lowAt], m[secondAt] = byte(v), 1
			m.setAddress(0x2A00 + v)
			if !same(t, p, m, "CODE", code, "Control of", v) {
				return
			}
		}
	}
}

func TestSecondByteOfEachCode(t *testing.T) {
	for _, low := range []byte{0, 1, 0x3F, 0x40, 0x7F, 0x80, 0xFE, 0xFF} {
		for v := range 256 {
			m := mixed()
			p := loaded(t, m)
			tell(p, low, byte(v))
			m.control(low)
			m.control(byte(v))
			if !same(t, p, m, "Control of", low, v) {
				return
			}
		}
	}
}

func TestSecondByteTakesLowAndNotTheAddress(t *testing.T) {
	m := mixedAt(1, 0x1234)
	m[lowAt], m[secondAt] = 0x77, 1
	p := loaded(t, m)
	p.Control(0x65)
	m[codeAt], m[secondAt] = 1, 0
	m.setAddress(0x2577)
	same(t, p, m, "LOW")
}

func TestCode0ReadsAhead(t *testing.T) {
	for _, a := range edges() {
		m := mixed()
		p := loaded(t, m)
		tell(p, byte(a), byte(a>>8))
		m[lowAt], m[codeAt], m[bufferAt] = byte(a), 0, m[a]
		m.setAddress(a + 1)
		same(t, p, m, "at", a)
		if v := p.Read(); v != m[a] {
			t.Error("at", a, "Read", v)
		}
		if v := p.Read(); v != m[(a+1)%16384] {
			t.Error("behind", a, "Read", v)
		}
	}
}

func TestOtherCodesDoNotReadAhead(t *testing.T) {
	for _, code := range []byte{1, 2, 3} {
		m := mixed()
		p := loaded(t, m)
		tell(p, 0x0B, code<<6|0x1F)
		m[lowAt], m[codeAt] = 0x0B, code
		m.setAddress(0x1F0B)
		same(t, p, m, "CODE", code)
		if v := p.Read(); v != m[bufferAt] {
			t.Error("CODE", code, "Read", v)
		}
	}
}

func TestCode2SetsARegister(t *testing.T) {
	for n := range 16 {
		for _, more := range []byte{0, 16, 32, 48} {
			m := mixed()
			p := loaded(t, m)
			tell(p, 0xAB, 0x80|more|byte(n))
			want := [11]byte(m[regsAt:lowerAt])
			if n <= 10 {
				want[n] = 0xAB
			}
			if p.Regs() != want {
				t.Error(n, more, p.Regs())
			}
			m[lowAt], m[codeAt] = 0xAB, 2
			m.setAddress(int(more|byte(n))*256 + 0xAB)
			copy(m[regsAt:], want[:])
			same(t, p, m, "the register", n, more)
		}
	}
}

func TestOtherCodesSetNoRegister(t *testing.T) {
	for _, code := range []byte{0, 1, 3} {
		m := mixed()
		p := loaded(t, m)
		for n := range byte(16) {
			tell(p, 0xAB, code<<6|n)
		}
		if p.Regs() != [11]byte(m[regsAt:lowerAt]) {
			t.Error(code, p.Regs())
		}
	}
}

func TestARegisterTakesAnyByte(t *testing.T) {
	p := port.New()
	for v := range 256 {
		tell(p, byte(v), 0x8A)
		if p.Reg(10) != byte(v) {
			t.Error(v, p.Reg(10))
		}
	}
}

func TestTheExample(t *testing.T) {
	p := port.New()
	tell(p, 5, 129)
	if p.Reg(1) != 5 || p.Regs() != [11]byte{1: 5} {
		t.Error(p.Regs())
	}
}

// P13.3

func TestWriteOfEachCode(t *testing.T) {
	for _, code := range []byte{0, 1, 2, 3} {
		for _, a := range edges() {
			for _, v := range []byte{0, 1, 63, 64, 65, 127, 128, 192, 255} {
				for _, second := range []byte{0, 1} {
					m := mixedAt(code, a)
					m[secondAt] = second
					p := loaded(t, m)
					p.Write(v)
					m.write(v)
					if !same(t, p, m, "CODE", code, "Write of", v, "at", a, "SECOND", second) {
						return
					}
				}
			}
		}
	}
}

func TestColorsHaveSixBitsAndTheBufferEight(t *testing.T) {
	for v := range 256 {
		p := port.New()
		tell(p, 0x05, 0xC0)
		p.Write(byte(v))
		if c := p.Cram(); c[5] != byte(v)&63 {
			t.Error(v, c[5])
		}
		if got := p.Read(); got != byte(v) {
			t.Error(v, "the BUFFER", got)
		}
	}
}

func TestColorsGoRoundBehind31(t *testing.T) {
	m := mixed()
	p := loaded(t, m)
	tell(p, 0x1E, 0xFF)
	want := bytes.Clone(m[cramAt:regsAt])
	for _, v := range []byte{41, 42, 43, 44} {
		p.Write(v)
	}
	want[30], want[31], want[0], want[1] = 41, 42, 43, 44
	if !bytes.Equal(p.Cram(), want) {
		t.Error(p.Cram())
	}
	if !bytes.Equal(p.Vram(), m[:cramAt]) {
		t.Error("VRAM is written, too")
	}
	if a := model(p.Dump()).address(); a != 0x3F22 {
		t.Error("the ADDRESS", a)
	}
}

func TestReadBehindAWrite(t *testing.T) {
	for _, code := range []byte{0, 1, 2, 3} {
		m := mixedAt(code, 0x0FFF)
		p := loaded(t, m)
		p.Write(0xD3)
		if v := p.Read(); v != 0xD3 {
			t.Error("CODE", code, "first", v)
		}
		if v := p.Read(); v != m[0x1000] {
			t.Error("CODE", code, "then", v)
		}
	}
}

func TestReadOfEachCode(t *testing.T) {
	for _, code := range []byte{0, 1, 2, 3} {
		for _, a := range edges() {
			for _, second := range []byte{0, 1} {
				m := mixedAt(code, a)
				m[secondAt] = second
				p := loaded(t, m)
				got := p.Read()
				if want := m.read(); got != want {
					t.Error("CODE", code, "at", a, "Read", got, want)
				}
				if !same(t, p, m, "CODE", code, "at", a, "SECOND", second) {
					return
				}
			}
		}
	}
}

func TestReadGoesThroughAllOfVram(t *testing.T) {
	m := mixed()
	p := loaded(t, m)
	tell(p, 0, 0)
	for a := range 2 * 16384 {
		if v := p.Read(); v != m[a%16384] {
			t.Fatal(a, v)
		}
	}
}

func TestWriteGoesThroughAllOfVram(t *testing.T) {
	m := mixed()
	p := port.New()
	tell(p, 0, 0x40)
	for a := range 16384 {
		p.Write(m[a])
	}
	if !bytes.Equal(p.Vram(), m[:cramAt]) {
		t.Error("VRAM")
	}
	p.Write(0x99)
	if v := p.Vram(); v[0] != 0x99 || !bytes.Equal(v[1:], m[1:cramAt]) {
		t.Error("behind the last one")
	}
}

func TestAddressGoesFrom16383OnTo0(t *testing.T) {
	acts := map[string]func(p *port.Port){
		"Control": func(p *port.Port) { tell(p, 0xFF, 0x3F) },
		"Write":   func(p *port.Port) { tell(p, 0xFF, 0x7F); p.Write(1) },
		"a color": func(p *port.Port) { tell(p, 0xFF, 0xFF); p.Write(1) },
		"Read":    func(p *port.Port) { tell(p, 0xFF, 0x7F); p.Read() },
	}
	for name, act := range acts {
		p := loaded(t, mixed())
		act(p)
		if a := model(p.Dump()).address(); a != 0 {
			t.Error(name, a)
		}
		p.Read()
		if a := model(p.Dump()).address(); a != 1 {
			t.Error("behind", name, a)
		}
	}
}

func TestReadBehindOneByteOfAControl(t *testing.T) {
	m := mixedAt(0, 0x2AC5)
	p := loaded(t, m)
	p.Control(0x10)
	if v := p.Read(); v != 0xE7 {
		t.Error("the BUFFER", v)
	}
	if v := p.Read(); v != m[0x2A10] {
		t.Error("at the new ADDRESS", v)
	}
	tell(p, 0x44, 0x85)
	if p.Reg(5) != 0x44 {
		t.Error("a SECOND is awaited still", p.Regs())
	}
}

func TestWriteBehindOneByteOfAControl(t *testing.T) {
	m := mixedAt(1, 0x2AC5)
	p := loaded(t, m)
	p.Control(0x10)
	p.Write(0xB7)
	if v := p.Vram(); v[0x2A10] != 0xB7 || v[0x2AC5] != m[0x2AC5] {
		t.Error("at another ADDRESS")
	}
	tell(p, 0x44, 0x85)
	if p.Reg(5) != 0x44 {
		t.Error("a SECOND is awaited still", p.Regs())
	}
}

func TestManyCallsGoAsTheWordsSay(t *testing.T) {
	m := make(model, dumpBytes)
	p := port.New()
	dice := uint32(1)
	for i := range 60000 {
		dice = dice*1664525 + 1013904223
		v := byte(dice >> 16)
		switch dice >> 28 {
		case 0, 1, 2, 3, 4, 5:
			p.Control(v)
			m.control(v)
		case 6, 7, 8, 9, 10:
			p.Write(v)
			m.write(v)
		case 11:
			p.Forget()
			m[secondAt] = 0
		default:
			if got, want := p.Read(), m.read(); got != want {
				t.Fatal(i, got, want)
			}
		}
		if i%97 == 0 && !same(t, p, m, "call", i) {
			return
		}
	}
	same(t, p, m, "at the end")
}
