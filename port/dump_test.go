package port_test

import (
	"bytes"
	"testing"

	"joystick/api"
	"joystick/port"
)

// P13.4 and Errors

func TestDumpByCalls(t *testing.T) {
	p := port.New()
	tell(p, 0x00, 0x40)
	p.Write(11)
	tell(p, 0xFF, 0x7F)
	p.Write(12)
	tell(p, 0x00, 0xC0)
	p.Write(13)
	tell(p, 0x1F, 0xC0)
	p.Write(14)
	tell(p, 15, 0x80, 16, 0x8A)
	tell(p, 0x34, 0xD2)
	p.Write(0xEE)
	p.Control(0x78)
	want := make(model, 16433)
	for at, v := range map[int]byte{
		0: 11, 16383: 12,
		16384: 13, 16384 + 20: 0x2E, 16415: 14,
		16416: 15, 16426: 16,
		16427: 0x78, 16428: 0x12, 16429: 3, 16430: 0x78, 16431: 1, 16432: 0xEE,
	} {
		want[at] = v
	}
	same(t, p, want, "by calls")
	p.Forget()
	want[16431] = 0
	same(t, p, want, "without a SECOND")
	if len(p.Dump()) != api.PortSize {
		t.Error("PortSize")
	}
}

func TestDumpAndLoadOfAnyState(t *testing.T) {
	for _, code := range []byte{0, 1, 2, 3} {
		for _, second := range []byte{0, 1} {
			for _, a := range edges() {
				m := mixedAt(code, a)
				m[secondAt] = second
				p := loaded(t, m)
				q := loaded(t, p.Dump())
				if !same(t, p, m, "p") || !same(t, q, m, "q") {
					return
				}
				for _, x := range []*port.Port{p, q} {
					tell(x, 0x9A)
					x.Write(0x5C)
					tell(x, 0x21, 0x86, 0x05)
				}
				if p.Read() != q.Read() || !same(t, p, q.Dump(), "they go on differently") {
					return
				}
			}
		}
	}
}

func TestLoadIsFeltByEachCall(t *testing.T) {
	m := mixedAt(3, 0x0123)
	m[secondAt] = 1
	p := loaded(t, m)
	if !bytes.Equal(p.Vram(), m[:cramAt]) || !bytes.Equal(p.Cram(), m[cramAt:regsAt]) || p.Regs() != [11]byte(m[regsAt:lowerAt]) {
		t.Error("VRAM, CRAM or REGS")
	}
	p.Control(0x87)
	if p.Reg(7) != m[lowAt] {
		t.Error("LOW or SECOND")
	}
	p = loaded(t, m)
	p.Write(0x2B)
	if p.Cram()[3] != 0x2B {
		t.Error("CODE or ADDRESS")
	}
	p = loaded(t, m)
	if p.Read() != m[bufferAt] || p.Read() != m[0x0123] {
		t.Error("BUFFER or ADDRESS")
	}
}

func TestLoadLaysAllBack(t *testing.T) {
	m := mixed()
	m[secondAt] = 1
	p := loaded(t, m)
	zeros := port.New().Dump()
	if e := p.Load(zeros); e != api.OK {
		t.Fatal(e)
	}
	same(t, p, zeros, "something of before is left")
}

func TestLoadOfOtherSizesChangesNothing(t *testing.T) {
	m := mixed()
	p := loaded(t, m)
	for _, n := range []int{0, 1, 6, 11, 32, 16384, 16416, 16427, 16432, 16434, 16435, 2 * 16433} {
		if e := p.Load(make([]byte, n)); e != api.ErrPort {
			t.Errorf("%d bytes: %d", n, e)
		}
		same(t, p, m, n, "bytes: changed")
	}
	if p.Load(nil) != api.ErrPort || p.Load(make([]byte, 16432, 16433)) != api.ErrPort || p.Load(make([]byte, 5, 20000)) != api.ErrPort {
		t.Error("nil or spare room is taken")
	}
	same(t, p, m, "changed")
}

// greatest tells how great a Dump's byte may be.
func greatest(at int) int {
	switch {
	case at >= cramAt && at < regsAt, at == higherAt:
		return 63
	case at == codeAt:
		return 3
	case at == secondAt:
		return 1
	}
	return 255
}

// other tells a Dump that differs from mixed at each place.
func other() model {
	m := mixed()
	for i := range m {
		m[i] ^= 1
	}
	return m
}

func TestLoadOfEachByteAsGreatAsItMayBe(t *testing.T) {
	for at := cramAt - 2; at < dumpBytes; at++ {
		for _, v := range []int{0, 1, greatest(at)} {
			m := mixed()
			m[at] = byte(v)
			p := port.New()
			if e := p.Load(m); e != api.OK {
				t.Error("the byte", at, "of", v, "isn't taken:", e)
			}
			same(t, p, m, "the byte", at, "of", v)
		}
	}
}

func TestLoadOfBytesThatAreTooGreatChangesNothing(t *testing.T) {
	m := mixed()
	p := loaded(t, m)
	for at := cramAt; at < dumpBytes; at++ {
		for v := greatest(at) + 1; v < 256; v++ {
			bad := other()
			bad[at] = byte(v)
			if e := p.Load(bad); e != api.ErrPort {
				t.Fatal("the byte", at, "of", v, "is taken:", e)
			}
		}
		if !same(t, p, m, "the byte", at, "changed something") {
			return
		}
	}
}

func TestLoadOfAllBytesAsGreatAsTheyMayBe(t *testing.T) {
	m := make(model, dumpBytes)
	for i := range m {
		m[i] = byte(greatest(i))
	}
	p := loaded(t, m)
	same(t, p, m, "the greatest")
	p.Forget()
	p.Write(1)
	if c := p.Cram(); c[31] != 1 || model(p.Dump()).address() != 0 {
		t.Error(c)
	}
}

// P1, P2 and the rules that hold everywhere

func TestAskingChangesNothing(t *testing.T) {
	for _, second := range []byte{0, 1} {
		m := mixed()
		m[secondAt] = second
		p := loaded(t, m)
		for n := -3; n < 20; n++ {
			p.Reg(n)
		}
		p.Regs()
		p.Vram()
		p.Cram()
		p.Dump()
		same(t, p, m, "asked")
	}
}

func TestWhatIsLoadedIsNeitherKeptNorChanged(t *testing.T) {
	m := mixed()
	room := append(m.clone(), 7, 8, 9)
	before := bytes.Clone(room)
	p := loaded(t, room[:dumpBytes])
	tell(p, 0x00, 0x40)
	p.Write(1)
	tell(p, 0x00, 0xC0)
	p.Write(1)
	tell(p, 0x77, 0x80)
	if !bytes.Equal(room, before) {
		t.Error("changed")
	}
	after := p.Dump()
	clear(room)
	same(t, p, after, "kept")
}

func TestAnswersAreNewMemory(t *testing.T) {
	m := mixed()
	p := loaded(t, m)
	asked := map[string]func() []byte{"Vram": p.Vram, "Cram": p.Cram, "Dump": p.Dump}
	for name, ask := range asked {
		first, second := ask(), ask()
		want := bytes.Clone(second)
		clear(first[:cap(first)])
		if !bytes.Equal(second, want) {
			t.Error(name, "answers share memory")
		}
		same(t, p, m, name, "shares memory with the port")
	}
	regs := p.Regs()
	regs[3] = 99
	same(t, p, m, "Regs")
}

func TestAnswersStayBehindOtherCalls(t *testing.T) {
	m := mixed()
	p := loaded(t, m)
	vram, cram, regs, dump := p.Vram(), p.Cram(), p.Regs(), p.Dump()
	if p.Load(other()) != api.OK {
		t.Fatal("Load")
	}
	if !bytes.Equal(vram, m[:cramAt]) || !bytes.Equal(cram, m[cramAt:regsAt]) || regs != [11]byte(m[regsAt:lowerAt]) || !bytes.Equal(dump, m) {
		t.Error("an answer has changed")
	}
}

func TestPortsStandAlone(t *testing.T) {
	one, two := port.New(), loaded(t, mixed())
	tell(one, 0x55, 0x81, 0x00, 0xC0)
	one.Write(9)
	one.Control(1)
	same(t, two, mixed(), "one port tells of the other")
	same(t, port.New(), make(model, dumpBytes), "a new one tells of the others")
}
