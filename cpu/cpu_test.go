package cpu_test

import (
	"strconv"
	"strings"
	"testing"

	"joystick/api"
	"joystick/cpu"
	"joystick/names"
	"joystick/pairs"
	"joystick/regs"
	"joystick/repeat"
	"joystick/sums"
	"joystick/turns"
)

// The prefixes.
const (
	dd = 221
	fd = 253
	ed = 237
	cb = 203
)

// aheads are what may stand ahead of a step.
func aheads() []byte { return []byte{0, dd, fd} }

// same holds a step against the model's: registers, clocks, and what the world was asked in which order.
func same(t *testing.T, what string, r api.Regs, w *world) (api.Regs, bool) {
	t.Helper()
	other := newWorld(w.seed, 0)
	for a, v := range w.laid {
		other.laid[a] = v
	}
	m := model{Regs: r, w: other}
	clocks := m.step()
	w.log = nil
	got, n := cpu.Step(r, w)
	if got != m.Regs || n != clocks || w.told() != other.told() {
		t.Errorf("%s of %+v:\n%+v in %d, %s; not\n%+v in %d, %s", what, r, got, n, w.told(), m.Regs, clocks, other.told())
		return got, false
	}
	return got, true
}

// shape is a way to an instruction: what was ahead, the bytes before the op, and its page.
type shape struct {
	ahead byte
	front []byte
	page  int
}

// shapes are all ways; where d stands ahead of the op it is the front's last byte.
func shapes() []shape {
	return []shape{
		{0, nil, api.Plain}, {dd, nil, api.DD}, {fd, nil, api.FD},
		{0, []byte{cb}, api.CB}, {dd, []byte{cb, 0}, api.DDCB}, {fd, []byte{cb, 0}, api.FDCB},
		{0, []byte{ed}, api.ED}, {dd, []byte{ed}, api.ED}, {fd, []byte{ed}, api.ED},
	}
}

// away tells whether an op of a page is none of its own, but leads to another page.
func away(page int, op byte) bool {
	return (page == api.Plain || page == api.DD || page == api.FD) && (op == cb || op == dd || op == ed || op == fd)
}

// TestEachInstruction: each of the seven pages, of many registers and bytes, edges among them.
func TestEachInstruction(t *testing.T) {
	d := dice(88172645463325252)
	for _, s := range shapes() {
		for op := range 256 {
			for range 60 {
				r := d.regs()
				r.Prefix = s.ahead
				code := append([]byte(nil), s.front...)
				if len(code) == 2 {
					code[1] = d.byte()
				}
				code = append(code, byte(op))
				code = append(code, d.code(3)...)
				w := newWorld(uint32(d.roll(1<<30)), r.PC, code...)
				if _, ok := same(t, names.Pattern(s.page, byte(op)), r, w); !ok {
					return
				}
			}
		}
	}
}

// TestConditions: each jump that hangs on a flag, of all flags.
func TestConditions(t *testing.T) {
	ops := []byte{16, 24, 32, 40, 48, 56}
	for y := range 8 {
		ops = append(ops, byte(192+8*y), byte(194+8*y), byte(196+8*y))
	}
	for _, ahead := range aheads() {
		for _, op := range ops {
			for f := range 256 {
				for _, b := range []byte{0, 1, 2} {
					r := api.Regs{F: byte(f), B: b, PC: 0x1000, SP: 0x8000, WZ: 5, Prefix: ahead}
					same(t, names.Pattern(api.Plain, op), r, newWorld(7, 0x1000, op, 0x85, 0x12))
				}
			}
		}
	}
}

// TestPrograms: thousands of steps on end, where things come between.
func TestPrograms(t *testing.T) {
	d := dice(362436069)
	for range 30 {
		w := newWorld(uint32(d.roll(1<<30)), 0)
		r := d.regs()
		m := model{Regs: r, w: newWorld(w.seed, 0)}
		for i := range 5000 {
			pause, line := d.roll(50) == 0, d.roll(5) == 0
			n, clocks := 0, 0
			r, n = cpu.Interrupt(r, w, pause, line)
			clocks = m.interrupt(pause, line)
			if n == 0 {
				r, n = cpu.Step(r, w)
				m.hasD = false
				clocks = m.step()
			}
			if r != m.Regs || n != clocks || w.told() != m.w.told() {
				t.Fatalf("step %d: %+v in %d, %s; not %+v in %d, %s", i, r, n, w.told(), m.Regs, clocks, m.w.told())
			}
			w.log, m.w.log = nil, nil
		}
	}
}

// TestTheExample: at PC 62 (3E), 5: A is 5, PC two more, in 7 clocks.
func TestTheExample(t *testing.T) {
	w := newWorld(0, 0x4000, 62, 5)
	r, n := cpu.Step(api.Regs{PC: 0x4000}, w)
	if want := (api.Regs{A: 5, PC: 0x4002, R: 1}); r != want || n != 7 || w.told() != "R4000 R4001" {
		t.Errorf("%+v in %d, %s", r, n, w.told())
	}
}

// P12.1

// TestHalted: a wait is a Tick, and nothing else, whatever stands at PC.
func TestHalted(t *testing.T) {
	d := dice(5)
	for range 1000 {
		r := d.regs()
		r.Halted = true
		r.Prefix = aheads()[d.roll(3)]
		w := newWorld(1, r.PC, d.byte())
		want := r
		want.R = r.R&128 | (r.R+1)&127
		if got, n := cpu.Step(r, w); got != want || n != 4 || w.told() != "" {
			t.Fatalf("%+v: %+v in %d, %s", r, got, n, w.told())
		}
	}
}

// TestDelayEnds: Delay is false behind any step, but behind EI.
func TestDelayEnds(t *testing.T) {
	for _, s := range shapes() {
		for op := range 256 {
			code := append(append([]byte(nil), s.front...), byte(op), 0, 0, 0)
			for _, delay := range []bool{false, true} {
				r, _ := cpu.Step(api.Regs{PC: 0x1000, Prefix: s.ahead, Delay: delay}, newWorld(1, 0x1000, code...))
				if want := names.Pattern(s.page, byte(op)) == "EI"; r.Delay != want {
					t.Errorf("page %d, op %d: Delay %v", s.page, op, r.Delay)
				}
			}
		}
	}
}

// TestPrefixes: it is kept for the next step, four clocks each; the last one counts.
func TestPrefixes(t *testing.T) {
	for _, ahead := range aheads() {
		for _, op := range []byte{dd, fd} {
			r, n := cpu.Step(api.Regs{PC: 0xFFFF, R: 0xFF, Prefix: ahead, WZ: 9, Delay: true}, newWorld(0, 0xFFFF, op))
			if want := (api.Regs{R: 0x80, Prefix: op, WZ: 9}); r != want || n != 4 {
				t.Errorf("%d behind %d: %+v in %d", op, ahead, r, n)
			}
		}
	}
	d := dice(77)
	code := make([]byte, 1000)
	for i := range code {
		code[i] = aheads()[1+d.roll(2)]
	}
	code[999] = fd
	code = append(code, 0x26, 0x77, 0x24)
	w := newWorld(0, 0x2000, code...)
	r, all := api.Regs{PC: 0x2000}, 0
	for range 1000 {
		n := 0
		r, n = cpu.Step(r, w)
		all += n
	}
	if all != 4000 || r.Prefix != fd || r.PC != 0x2000+1000 || r.R != 1000%128 {
		t.Errorf("%+v in %d", r, all)
	}
	// LD IYH,$77, and then H itself again.
	r, _ = cpu.Step(r, w)
	r, _ = cpu.Step(r, w)
	if r.IY != 0x7700 || r.H != 1 || r.Prefix != 0 {
		t.Errorf("%+v", r)
	}
}

// TestPrefixInVain: behind ED all is as without one, but for the Prefix that is used up.
func TestPrefixInVain(t *testing.T) {
	d := dice(4711)
	for op := range 256 {
		for range 20 {
			r := d.regs()
			code := append([]byte{ed, byte(op)}, d.code(2)...)
			plain := newWorld(3, r.PC, code...)
			want, clocks := cpu.Step(r, plain)
			for _, ahead := range []byte{dd, fd} {
				r.Prefix = ahead
				w := newWorld(3, r.PC, code...)
				got, n := cpu.Step(r, w)
				if got != want || n != clocks || w.told() != plain.told() {
					t.Fatalf("ED %d behind %d: %+v in %d", op, ahead, got, n)
				}
			}
		}
	}
}

// TestTicks: how far R and PC go, of each page.
func TestTicks(t *testing.T) {
	for _, s := range shapes() {
		ticks := byte(len(s.front) + 1)
		if s.page == api.DDCB || s.page == api.FDCB {
			ticks = 1
		}
		for op := range 256 {
			if away(s.page, byte(op)) || s.page == api.ED && op == 0x4F {
				continue
			}
			code := append(append([]byte(nil), s.front...), byte(op), 0, 0, 0)
			for _, from := range []byte{0, 5, 126, 127, 128, 130, 254, 255} {
				r, _ := cpu.Step(api.Regs{PC: 0x1000, R: from, Prefix: s.ahead}, newWorld(1, 0x1000, code...))
				if want := from&128 | (from+ticks)&127; r.R != want {
					t.Errorf("page %d, op %d: R from %d to %d", s.page, op, from, r.R)
				}
			}
		}
	}
}

// sizes tells how many bytes are behind an op, by its pattern, but d that stood ahead of it.
func sizes(page int, pattern string) int {
	size := 0
	if strings.Contains(pattern, "+d") && page != api.DDCB && page != api.FDCB {
		size++
	}
	switch {
	case strings.Contains(pattern, "nn"):
		return size + 2
	case strings.HasSuffix(pattern, "n") || strings.Contains(pattern, "(n)"):
		return size + 1
	case strings.HasSuffix(pattern, "e"):
		return size + 1
	}
	return size
}

// TestCodeIsRead: an instruction's bytes are read one by one, ahead of all else, round the memory's end, too; and PC is behind them, if it doesn't jump.
func TestCodeIsRead(t *testing.T) {
	for _, s := range shapes() {
		for op := range 256 {
			if away(s.page, byte(op)) {
				continue
			}
			pattern := names.Pattern(s.page, byte(op))
			size := len(s.front) + 1 + sizes(s.page, pattern)
			for _, at := range []uint16{0x1000, 0xFFFC, 0xFFFD, 0xFFFE, 0xFFFF} {
				code := append(append([]byte(nil), s.front...), byte(op), 0x40, 0x41, 0x42)
				want := []string{}
				for i := range size {
					want = append(want, "R"+hex(at+uint16(i)))
				}
				r := api.Regs{PC: at, SP: 0x8000, H: 0x50, D: 0x60, B: 0x70, IX: 0x5100, IY: 0x5200, Prefix: s.ahead}
				w := newWorld(1, at, code...)
				r, _ = cpu.Step(r, w)
				if len(w.log) < size || strings.Join(w.log[:size], " ") != strings.Join(want, " ") {
					t.Errorf("%s at %d: %s, not ahead %s", pattern, at, w.told(), strings.Join(want, " "))
				}
				if !goesOn(pattern) && r.PC != at+uint16(size) {
					t.Errorf("%s at %d: PC %d", pattern, at, r.PC)
				}
			}
		}
	}
}

// goesOn tells whether an instruction may go on elsewhere.
func goesOn(pattern string) bool {
	for _, word := range []string{"JP", "JR", "CALL", "DJNZ", "RET", "RST", "LDIR", "LDDR", "CPIR", "CPDR", "INIR", "INDR", "OTIR", "OTDR"} {
		if strings.HasPrefix(pattern, word) {
			return true
		}
	}
	return false
}

// TestBesideThePair: (IX+d) and (IY+d), of all d, and of pairs at the memory's ends; WZ tells where it was.
func TestBesideThePair(t *testing.T) {
	for _, ahead := range []byte{dd, fd} {
		for _, base := range []uint16{0, 1, 127, 128, 129, 0x4000, 0x7FFF, 0x8000, 65407, 65408, 65409, 65534, 65535} {
			for d := range 256 {
				a := uint16((int(base) + signed(byte(d)) + 65536) % 65536)
				r := api.Regs{PC: 0x1000, IX: base, IY: base, Prefix: ahead, H: 3, L: 4, A: 0x5A}
				w := newWorld(9, 0x1000, 0x46, byte(d)) // LD B,(IX+d)
				got, n := cpu.Step(r, w)
				if got.B != w.peek(a) || got.WZ != a || n != 15 || w.told() != "R1000 R1001 R"+hex(a) {
					t.Errorf("%d and %d: %+v in %d, %s", base, d, got, n, w.told())
				}
				w = newWorld(9, 0x1000, 0x77, byte(d)) // LD (IX+d),A
				got, n = cpu.Step(r, w)
				if got.WZ != a || n != 15 || w.told() != "R1000 R1001 W"+hex(a)+"=5A" {
					t.Errorf("%d and %d: %+v in %d, %s", base, d, got, n, w.told())
				}
				w = newWorld(9, 0x1000, cb, byte(d), 0xC7) // SET 0,(IX+d),A
				got, n = cpu.Step(r, w)
				if v := hex2(w.mixed(uint32(a)) | 1); got.WZ != a || n != 19 || w.told() != "R1000 R1001 R1002 R"+hex(a)+" W"+hex(a)+"="+v {
					t.Errorf("%d and %d: %+v in %d, %s", base, d, got, n, w.told())
				}
			}
		}
	}
}

// P12.2 to P12.4: by rows.

// apart are registers of which no two hold the same, at 1000.
func apart() api.Regs {
	return api.Regs{
		A: 0x0A, F: 0, B: 0x12, C: 0x34, D: 0x56, E: 0x78, H: 0x9A, L: 0xBC,
		Alt: [8]byte{0xA1, 0xA2, 0xA3, 0xA4, 0xA5, 0xA6, 0xA7, 0xA8},
		IX:  0x2345, IY: 0x6789, SP: 0xD000, PC: 0x1000, WZ: 0x0BAD,
		I: 0x3F, R: 0x40, IM: 1, IFF2: true,
	}
}

// row is an instruction, what it is done with, and what comes of it: beside PC, that is behind it, R, and what the code's bytes are read for.
type row struct {
	code   []byte
	with   func(r *api.Regs) // what isn't as apart has it
	mem    map[uint16]byte   // what is in memory
	clocks int
	log    string
	want   func(r *api.Regs)
}

// code tells bytes from their digits.
func code(digits string) []byte {
	var out []byte
	for _, two := range strings.Fields(digits) {
		v, err := strconv.ParseUint(two, 16, 8)
		if err != nil {
			panic(err)
		}
		out = append(out, byte(v))
	}
	return out
}

// no changes nothing.
func no(*api.Regs) {}

// run does a row, behind a prefix as a second step, whose clocks aren't told.
func (x row) run(t *testing.T) {
	t.Helper()
	r := apart()
	x.with(&r)
	w := newWorld(11, r.PC, x.code...)
	for a, v := range x.mem {
		w.lay(a, v)
	}
	want := r
	want.PC += uint16(len(x.code))
	want.R++
	if x.code[0] == dd || x.code[0] == fd || x.code[0] == ed || x.code[0] == cb {
		want.R++
	}
	x.want(&want)
	log := ""
	for i := range x.code {
		log += " R" + hex(r.PC+uint16(i))
	}
	if x.log != "" {
		log += " " + x.log
	}
	got, n := cpu.Step(r, w)
	if x.code[0] == dd || x.code[0] == fd {
		got, n = cpu.Step(got, w)
	}
	if got != want || n != x.clocks || " "+w.told() != log {
		t.Errorf("% X:\n%+v in %d, %s; not\n%+v in %d,%s", x.code, got, n, w.told(), want, x.clocks, log)
	}
}

func runAll(t *testing.T, rows []row) {
	t.Helper()
	for _, x := range rows {
		x.run(t)
	}
}

// TestLoadOne: LD of one byte.
func TestLoadOne(t *testing.T) {
	at := map[uint16]byte{0x9ABC: 0xE1, 0x1234: 0xE2, 0x5678: 0xE3, 0xFFFF: 0xE4, 0x2344: 0xE5, 0x6809: 0xE6, 0x12FF: 0xE7}
	end := func(r *api.Regs) { r.B, r.C, r.D, r.E = 0xFF, 0xFF, 0xFF, 0xFF }
	runAll(t, []row{
		{code("41"), no, at, 4, "", func(r *api.Regs) { r.B = 0x34 }},
		{code("65"), no, at, 4, "", func(r *api.Regs) { r.H = 0xBC }},
		{code("DD 65"), no, at, 4, "", func(r *api.Regs) { r.IX = 0x4545 }},
		{code("FD 7C"), no, at, 4, "", func(r *api.Regs) { r.A = 0x67 }},
		{code("FD 68"), no, at, 4, "", func(r *api.Regs) { r.IY = 0x6712 }},
		{code("3E FE"), no, at, 7, "", func(r *api.Regs) { r.A = 0xFE }},
		{code("DD 26 FE"), no, at, 7, "", func(r *api.Regs) { r.IX = 0xFE45 }},
		{code("7E"), no, at, 7, "R9ABC", func(r *api.Regs) { r.A = 0xE1 }},
		{code("66"), no, at, 7, "R9ABC", func(r *api.Regs) { r.H = 0xE1 }},
		{code("DD 66 FF"), no, at, 15, "R2344", func(r *api.Regs) { r.H, r.WZ = 0xE5, 0x2344 }},
		{code("FD 6E 80"), no, at, 15, "R6709", func(r *api.Regs) { r.L, r.WZ = newWorld(11, 0).peek(0x6709), 0x6709 }},
		{code("75"), no, at, 7, "W9ABC=BC", no},
		{code("DD 75 7F"), no, at, 15, "W23C4=BC", func(r *api.Regs) { r.WZ = 0x23C4 }},
		{code("36 77"), no, at, 10, "W9ABC=77", no},
		{code("FD 36 80 77"), no, at, 15, "W6709=77", func(r *api.Regs) { r.WZ = 0x6709 }},
		{code("0A"), no, at, 7, "R1234", func(r *api.Regs) { r.A, r.WZ = 0xE2, 0x1235 }},
		{code("1A"), no, at, 7, "R5678", func(r *api.Regs) { r.A, r.WZ = 0xE3, 0x5679 }},
		{code("0A"), end, at, 7, "RFFFF", func(r *api.Regs) { r.A, r.WZ = 0xE4, 0 }},
		{code("02"), no, at, 7, "W1234=0A", func(r *api.Regs) { r.WZ = 0x0A35 }},
		{code("12"), no, at, 7, "W5678=0A", func(r *api.Regs) { r.WZ = 0x0A79 }},
		{code("12"), end, at, 7, "WFFFF=0A", func(r *api.Regs) { r.WZ = 0x0A00 }},
		{code("3A FF 12"), no, at, 13, "R12FF", func(r *api.Regs) { r.A, r.WZ = 0xE7, 0x1300 }},
		{code("DD 3A FF 12"), no, at, 13, "R12FF", func(r *api.Regs) { r.A, r.WZ = 0xE7, 0x1300 }},
		{code("32 FF 12"), no, at, 13, "W12FF=0A", func(r *api.Regs) { r.WZ = 0x0A00 }},
	})
}

// TestLoadTwo: LD of two bytes, the stack, and what changes places.
func TestLoadTwo(t *testing.T) {
	at := map[uint16]byte{0xFFFF: 0xE4, 0: 0xE8, 0x5678: 0xE3, 0x5679: 0xE9, 0xD000: 0xEA, 0xD001: 0xEB}
	top := func(r *api.Regs) { r.SP = 0xFFFF }
	runAll(t, []row{
		{code("01 CD AB"), no, at, 10, "", func(r *api.Regs) { r.B, r.C = 0xAB, 0xCD }},
		{code("31 CD AB"), no, at, 10, "", func(r *api.Regs) { r.SP = 0xABCD }},
		{code("21 CD AB"), no, at, 10, "", func(r *api.Regs) { r.H, r.L = 0xAB, 0xCD }},
		{code("DD 21 CD AB"), no, at, 10, "", func(r *api.Regs) { r.IX = 0xABCD }},
		{code("FD 11 CD AB"), no, at, 10, "", func(r *api.Regs) { r.D, r.E = 0xAB, 0xCD }},
		{code("22 78 56"), no, at, 16, "W5678=BC W5679=9A", func(r *api.Regs) { r.WZ = 0x5679 }},
		{code("DD 22 FF FF"), no, at, 16, "WFFFF=45 W0000=23", func(r *api.Regs) { r.WZ = 0 }},
		{code("2A 78 56"), no, at, 16, "R5678 R5679", func(r *api.Regs) { r.H, r.L, r.WZ = 0xE9, 0xE3, 0x5679 }},
		{code("FD 2A FF FF"), no, at, 16, "RFFFF R0000", func(r *api.Regs) { r.IY, r.WZ = 0xE8E4, 0 }},
		{code("ED 43 78 56"), no, at, 20, "W5678=34 W5679=12", func(r *api.Regs) { r.WZ = 0x5679 }},
		{code("ED 63 78 56"), no, at, 20, "W5678=BC W5679=9A", func(r *api.Regs) { r.WZ = 0x5679 }},
		{code("ED 73 FF FF"), no, at, 20, "WFFFF=00 W0000=D0", func(r *api.Regs) { r.WZ = 0 }},
		{code("ED 7B FF FF"), no, at, 20, "RFFFF R0000", func(r *api.Regs) { r.SP, r.WZ = 0xE8E4, 0 }},
		{code("ED 6B 78 56"), no, at, 20, "R5678 R5679", func(r *api.Regs) { r.H, r.L, r.WZ = 0xE9, 0xE3, 0x5679 }},
		{code("F9"), no, at, 6, "", func(r *api.Regs) { r.SP = 0x9ABC }},
		{code("FD F9"), no, at, 6, "", func(r *api.Regs) { r.SP = 0x6789 }},
		{code("C5"), no, at, 11, "WCFFF=12 WCFFE=34", func(r *api.Regs) { r.SP = 0xCFFE }},
		{code("F5"), func(r *api.Regs) { r.F, r.SP = 0xD7, 0 }, at, 11, "WFFFF=0A WFFFE=D7", func(r *api.Regs) { r.SP = 0xFFFE }},
		{code("E5"), func(r *api.Regs) { r.SP = 1 }, at, 11, "W0000=9A WFFFF=BC", func(r *api.Regs) { r.SP = 0xFFFF }},
		{code("DD E5"), no, at, 11, "WCFFF=23 WCFFE=45", func(r *api.Regs) { r.SP = 0xCFFE }},
		{code("D1"), no, at, 10, "RD000 RD001", func(r *api.Regs) { r.D, r.E, r.SP = 0xEB, 0xEA, 0xD002 }},
		{code("F1"), top, at, 10, "RFFFF R0000", func(r *api.Regs) { r.A, r.F, r.SP = 0xE8, 0xE4, 1 }},
		{code("FD E1"), no, at, 10, "RD000 RD001", func(r *api.Regs) { r.IY, r.SP = 0xEBEA, 0xD002 }},
		{code("E3"), no, at, 19, "RD000 RD001 WD000=BC WD001=9A", func(r *api.Regs) { r.H, r.L, r.WZ = 0xEB, 0xEA, 0xEBEA }},
		{code("DD E3"), top, at, 19, "RFFFF R0000 WFFFF=45 W0000=23", func(r *api.Regs) { r.IX, r.WZ = 0xE8E4, 0xE8E4 }},
		{code("EB"), no, at, 4, "", func(r *api.Regs) { r.D, r.E, r.H, r.L = 0x9A, 0xBC, 0x56, 0x78 }},
		{code("DD EB"), no, at, 4, "", func(r *api.Regs) { r.D, r.E, r.H, r.L = 0x9A, 0xBC, 0x56, 0x78 }},
		{code("08"), no, at, 4, "", func(r *api.Regs) { r.A, r.F, r.Alt[0], r.Alt[1] = 0xA1, 0xA2, 0x0A, 0 }},
		{code("FD D9"), no, at, 4, "", func(r *api.Regs) {
			r.B, r.C, r.D, r.E, r.H, r.L = 0xA3, 0xA4, 0xA5, 0xA6, 0xA7, 0xA8
			r.Alt = [8]byte{0xA1, 0xA2, 0x12, 0x34, 0x56, 0x78, 0x9A, 0xBC}
		}},
	})
}

// TestSums: those of one byte and of two, on all three plain pages.
func TestSums(t *testing.T) {
	at := map[uint16]byte{0x9ABC: 0x7F, 0x2344: 0x80, 0x678A: 0xFF}
	all := func(r *api.Regs) { r.F = 0xFF }
	runAll(t, []row{
		{code("04"), all, at, 4, "", func(r *api.Regs) { r.B, r.F = 0x13, 1 }},
		{code("35"), no, at, 11, "R9ABC W9ABC=7E", func(r *api.Regs) { r.F = 0x2A }},
		{code("34"), all, at, 11, "R9ABC W9ABC=80", func(r *api.Regs) { r.F = 0x95 }},
		{code("DD 35 FF"), no, at, 19, "R2344 W2344=7F", func(r *api.Regs) { r.F, r.WZ = 0x3E, 0x2344 }},
		{code("FD 34 01"), no, at, 19, "R678A W678A=00", func(r *api.Regs) { r.F, r.WZ = 0x50, 0x678A }},
		{code("DD 2D"), func(r *api.Regs) { r.IX = 0x2300 }, at, 4, "", func(r *api.Regs) { r.IX, r.F = 0x23FF, 0xBA }},
		{code("FD 24"), func(r *api.Regs) { r.IY = 0xFF89 }, at, 4, "", func(r *api.Regs) { r.IY, r.F = 0x0089, 0x50 }},
		{code("03"), func(r *api.Regs) { r.B, r.C, r.F = 255, 255, 0xD7 }, at, 6, "", func(r *api.Regs) { r.B, r.C = 0, 0 }},
		{code("3B"), func(r *api.Regs) { r.SP = 0 }, at, 6, "", func(r *api.Regs) { r.SP = 0xFFFF }},
		{code("DD 23"), func(r *api.Regs) { r.IX = 0xFFFF }, at, 6, "", func(r *api.Regs) { r.IX = 0 }},
		{code("FD 2B"), no, at, 6, "", func(r *api.Regs) { r.IY = 0x6788 }},
		{code("09"), no, at, 11, "", func(r *api.Regs) { r.H, r.L, r.F, r.WZ = 0xAC, 0xF0, 0x28, 0x9ABD }},
		{code("29"), no, at, 11, "", func(r *api.Regs) { r.H, r.L, r.F, r.WZ = 0x35, 0x78, 0x31, 0x9ABD }},
		{code("DD 29"), no, at, 11, "", func(r *api.Regs) { r.IX, r.WZ = 0x468A, 0x2346 }},
		{code("FD 39"), func(r *api.Regs) { r.IY, r.F = 0xFFFF, 0xC4 }, at, 11, "", func(r *api.Regs) { r.IY, r.F, r.WZ = 0xCFFF, 0xCD, 0 }},
		{code("ED 4A"), func(r *api.Regs) { r.F = 1 }, at, 15, "", func(r *api.Regs) { r.H, r.L, r.F, r.WZ = 0xAC, 0xF1, 0xA8, 0x9ABD }},
		{code("ED 62"), all, at, 15, "", func(r *api.Regs) { r.H, r.L, r.F, r.WZ = 0xFF, 0xFF, 0xBB, 0x9ABD }},
		{code("DD ED 7A"), no, at, 15, "", func(r *api.Regs) { r.R++; r.H, r.L, r.F, r.WZ = 0x6A, 0xBC, 0x2D, 0x9ABD }},
		{code("ED 44"), all, at, 8, "", func(r *api.Regs) { r.A, r.F = 0xF6, 0xB3 }},
		{code("80"), no, at, 4, "", func(r *api.Regs) { r.A, r.F = 0x1C, 8 }},
		{code("DE 0A"), func(r *api.Regs) { r.F = 1 }, at, 7, "", func(r *api.Regs) { r.A, r.F = 0xFF, 0xBB }},
		{code("BE"), no, at, 7, "R9ABC", func(r *api.Regs) { r.F = 0xBB }},
		{code("DD A6 FF"), all, at, 15, "R2344", func(r *api.Regs) { r.A, r.F, r.WZ = 0, 0x54, 0x2344 }},
		{code("FD B4"), no, at, 4, "", func(r *api.Regs) { r.A, r.F = 0x6F, 0x2C }},
		{code("FE 0A"), no, at, 7, "", func(r *api.Regs) { r.F = 0x4A }},
		{code("0F"), all, at, 4, "", func(r *api.Regs) { r.A, r.F = 5, 0xC4 }},
		{code("17"), all, at, 4, "", func(r *api.Regs) { r.A, r.F = 0x15, 0xC4 }},
		{code("27"), no, at, 4, "", func(r *api.Regs) { r.A, r.F = 0x10, 0x10 }},
		{code("2F"), no, at, 4, "", func(r *api.Regs) { r.A, r.F = 0xF5, 0x32 }},
		{code("37"), all, at, 4, "", func(r *api.Regs) { r.F = 0xCD }},
		{code("3F"), all, at, 4, "", func(r *api.Regs) { r.F = 0xDC }},
	})
}

// TestGoingOn: jumps, calls, and what is switched.
func TestGoingOn(t *testing.T) {
	at := map[uint16]byte{0xD000: 0xEA, 0xD001: 0xEB, 0xFFFF: 0xE4, 0: 0xE8}
	z := func(r *api.Regs) { r.F = 0x40 }
	runAll(t, []row{
		{code("00"), no, at, 4, "", no},
		{code("DD 00"), no, at, 4, "", no},
		{code("76"), no, at, 4, "", func(r *api.Regs) { r.Halted = true }},
		{code("FD 76"), no, at, 4, "", func(r *api.Regs) { r.Halted = true }},
		{code("F3"), func(r *api.Regs) { r.IFF1 = true }, at, 4, "", func(r *api.Regs) { r.IFF1, r.IFF2 = false, false }},
		{code("FB"), no, at, 4, "", func(r *api.Regs) { r.IFF1, r.IFF2, r.Delay = true, true, true }},
		{code("C3 CD AB"), no, at, 10, "", func(r *api.Regs) { r.PC, r.WZ = 0xABCD, 0xABCD }},
		{code("CA CD AB"), no, at, 10, "", func(r *api.Regs) { r.WZ = 0xABCD }},
		{code("CA CD AB"), z, at, 10, "", func(r *api.Regs) { r.PC, r.WZ = 0xABCD, 0xABCD }},
		{code("E9"), no, at, 4, "", func(r *api.Regs) { r.PC = 0x9ABC }},
		{code("DD E9"), no, at, 4, "", func(r *api.Regs) { r.PC = 0x2345 }},
		{code("18 00"), no, at, 12, "", func(r *api.Regs) { r.WZ = 0x1002 }},
		{code("18 80"), no, at, 12, "", func(r *api.Regs) { r.PC, r.WZ = 0x0F82, 0x0F82 }},
		{code("18 7F"), func(r *api.Regs) { r.PC = 0xFFA0 }, at, 12, "", func(r *api.Regs) { r.PC, r.WZ = 0x0021, 0x0021 }},
		{code("18 80"), func(r *api.Regs) { r.PC = 0x0010 }, at, 12, "", func(r *api.Regs) { r.PC, r.WZ = 0xFF92, 0xFF92 }},
		{code("28 FE"), no, at, 7, "", no},
		{code("28 FE"), z, at, 12, "", func(r *api.Regs) { r.PC, r.WZ = 0x1000, 0x1000 }},
		{code("10 05"), no, at, 13, "", func(r *api.Regs) { r.B, r.PC, r.WZ = 0x11, 0x1007, 0x1007 }},
		{code("10 05"), func(r *api.Regs) { r.B = 1 }, at, 8, "", func(r *api.Regs) { r.B = 0 }},
		{code("10 05"), func(r *api.Regs) { r.B, r.F = 0, 0x40 }, at, 13, "", func(r *api.Regs) { r.B, r.PC, r.WZ = 0xFF, 0x1007, 0x1007 }},
		{code("CD CD AB"), no, at, 17, "WCFFF=10 WCFFE=03", func(r *api.Regs) { r.PC, r.WZ, r.SP = 0xABCD, 0xABCD, 0xCFFE }},
		{code("CC CD AB"), no, at, 10, "", func(r *api.Regs) { r.WZ = 0xABCD }},
		{code("CC CD AB"), z, at, 17, "WCFFF=10 WCFFE=03", func(r *api.Regs) { r.PC, r.WZ, r.SP = 0xABCD, 0xABCD, 0xCFFE }},
		{code("C9"), no, at, 10, "RD000 RD001", func(r *api.Regs) { r.PC, r.WZ, r.SP = 0xEBEA, 0xEBEA, 0xD002 }},
		{code("C8"), no, at, 5, "", no},
		{code("C8"), z, at, 11, "RD000 RD001", func(r *api.Regs) { r.PC, r.WZ, r.SP = 0xEBEA, 0xEBEA, 0xD002 }},
		{code("C9"), func(r *api.Regs) { r.SP = 0xFFFF }, at, 10, "RFFFF R0000", func(r *api.Regs) { r.PC, r.WZ, r.SP = 0xE8E4, 0xE8E4, 1 }},
		{code("C7"), no, at, 11, "WCFFF=10 WCFFE=01", func(r *api.Regs) { r.PC, r.WZ, r.SP = 0, 0, 0xCFFE }},
		{code("FF"), no, at, 11, "WCFFF=10 WCFFE=01", func(r *api.Regs) { r.PC, r.WZ, r.SP = 56, 56, 0xCFFE }},
		{code("FF"), func(r *api.Regs) { r.PC, r.SP = 0xFFFF, 1 }, nil, 11, "W0000=00 WFFFF=00", func(r *api.Regs) { r.PC, r.WZ, r.SP = 56, 56, 0xFFFF }},
		{code("ED 45"), no, at, 14, "RD000 RD001", func(r *api.Regs) { r.PC, r.WZ, r.SP, r.IFF1 = 0xEBEA, 0xEBEA, 0xD002, true }},
		{code("ED 4D"), func(r *api.Regs) { r.IFF1, r.IFF2 = true, false }, at, 14, "RD000 RD001", func(r *api.Regs) { r.PC, r.WZ, r.SP, r.IFF1 = 0xEBEA, 0xEBEA, 0xD002, false }},
		{code("ED 46"), no, at, 8, "", func(r *api.Regs) { r.IM = 0 }},
		{code("ED 4E"), no, at, 8, "", func(r *api.Regs) { r.IM = 0 }},
		{code("ED 56"), func(r *api.Regs) { r.IM = 0 }, at, 8, "", func(r *api.Regs) { r.IM = 1 }},
		{code("ED 5E"), no, at, 8, "", func(r *api.Regs) { r.IM = 2 }},
		{code("ED 7E"), no, at, 8, "", func(r *api.Regs) { r.IM = 2 }},
		{code("ED 00"), no, at, 8, "", no},
		{code("ED 77"), no, at, 8, "", no},
		{code("ED DD"), no, at, 8, "", no},
		{code("ED ED"), no, at, 8, "", no},
		{code("ED A4"), no, at, 8, "", no},
		{code("ED 98"), no, at, 8, "", no},
	})
}

// TestPorts: what goes through them, and at which clock.
func TestPorts(t *testing.T) {
	in := newWorld(11, 0)
	full := func(r *api.Regs) { r.A, r.B, r.C = 0xFF, 0xFF, 0xFF }
	flags := func(v byte) byte {
		f := sums.Shape(v)
		if sums.Parity(v) {
			f += api.FlagP
		}
		return f
	}
	v := in.inOf(0x1234)
	runAll(t, []row{
		{code("DB 7E"), no, nil, 11, "I0A7E@8", func(r *api.Regs) { r.A, r.WZ = in.inOf(0x0A7E), 0x0A7F }},
		{code("DB FF"), no, nil, 11, "I0AFF@8", func(r *api.Regs) { r.A, r.WZ = in.inOf(0x0AFF), 0x0B00 }},
		{code("DD DB FF"), full, nil, 11, "IFFFF@8", func(r *api.Regs) { r.A, r.WZ = in.inOf(0xFFFF), 0 }},
		{code("D3 7E"), no, nil, 11, "O0A7E=0A@8", func(r *api.Regs) { r.WZ = 0x0A7F }},
		{code("D3 FF"), full, nil, 11, "OFFFF=FF@8", func(r *api.Regs) { r.WZ = 0xFF00 }},
		{code("ED 50"), no, nil, 12, "I1234@9", func(r *api.Regs) { r.D, r.WZ, r.F = v, 0x1235, flags(v) }},
		{code("ED 40"), func(r *api.Regs) { r.F = 255 }, nil, 12, "I1234@9", func(r *api.Regs) { r.B, r.WZ, r.F = v, 0x1235, flags(v)+1 }},
		{code("ED 48"), no, nil, 12, "I1234@9", func(r *api.Regs) { r.C, r.WZ, r.F = v, 0x1235, flags(v) }},
		{code("DD ED 60"), no, nil, 12, "I1234@9", func(r *api.Regs) { r.R++; r.H, r.WZ, r.F = v, 0x1235, flags(v) }},
		{code("ED 70"), no, nil, 12, "I1234@9", func(r *api.Regs) { r.WZ, r.F = 0x1235, flags(v) }},
		{code("ED 51"), no, nil, 12, "O1234=56@9", func(r *api.Regs) { r.WZ = 0x1235 }},
		{code("FD ED 69"), no, nil, 12, "O1234=BC@9", func(r *api.Regs) { r.R++; r.WZ = 0x1235 }},
		{code("ED 71"), full, nil, 12, "OFFFF=00@9", func(r *api.Regs) { r.WZ = 0 }},
	})
}

// TestBits: the pages CB, DDCB and FDCB.
func TestBits(t *testing.T) {
	at := map[uint16]byte{0x9ABC: 0x81, 0x2344: 0x81, 0x680A: 0xFF}
	all := func(r *api.Regs) { r.F = 0xFF }
	runAll(t, []row{
		{code("CB 00"), no, at, 8, "", func(r *api.Regs) { r.B, r.F = 0x24, 0x24 }},
		{code("CB 3D"), all, at, 8, "", func(r *api.Regs) { r.L, r.F = 0x5E, 0x08 }},
		{code("CB 06"), no, at, 15, "R9ABC W9ABC=03", func(r *api.Regs) { r.F = 5 }},
		{code("CB 16"), no, at, 15, "R9ABC W9ABC=02", func(r *api.Regs) { r.F = 1 }},
		{code("CB 7C"), all, at, 8, "", func(r *api.Regs) { r.F = 0x99 }},
		{code("CB 45"), no, at, 8, "", func(r *api.Regs) { r.F = 0x7C }},
		{code("CB 7E"), no, at, 12, "R9ABC", func(r *api.Regs) { r.F = 0x98 }},
		{code("CB 76"), func(r *api.Regs) { r.WZ = 0x20FF }, at, 12, "R9ABC", func(r *api.Regs) { r.F = 0x74 }},
		{code("CB A7"), all, at, 8, "", no},
		{code("CB 9F"), all, at, 8, "", func(r *api.Regs) { r.A = 2 }},
		{code("CB E7"), no, at, 8, "", func(r *api.Regs) { r.A = 0x1A }},
		{code("CB BE"), all, at, 15, "R9ABC W9ABC=01", no},
		{code("CB C6"), all, at, 15, "R9ABC W9ABC=81", no},
		{code("CB F6"), all, at, 15, "R9ABC W9ABC=C1", no},
		{code("DD CB FF 06"), no, at, 19, "R2344 W2344=03", func(r *api.Regs) { r.F, r.WZ = 5, 0x2344 }},
		{code("DD CB FF 05"), no, at, 19, "R2344 W2344=03", func(r *api.Regs) { r.L, r.F, r.WZ = 3, 5, 0x2344 }},
		{code("DD CB FF 84"), all, at, 19, "R2344 W2344=80", func(r *api.Regs) { r.H, r.WZ = 0x80, 0x2344 }},
		{code("DD CB FF 46"), no, at, 16, "R2344", func(r *api.Regs) { r.F, r.WZ = 0x30, 0x2344 }},
		{code("DD CB FF 40"), no, at, 16, "R2344", func(r *api.Regs) { r.F, r.WZ = 0x30, 0x2344 }},
		{code("FD CB 81 7F"), no, at, 16, "R670A", func(r *api.Regs) {
			r.F, r.WZ = turns.Bit(7, newWorld(11, 0).peek(0x670A), 0, 0x67), 0x670A
		}},
		{code("FD CB 81 F9"), func(r *api.Regs) { r.IY = 0xFFFF }, map[uint16]byte{0xFF80: 0}, 19, "RFF80 WFF80=80", func(r *api.Regs) { r.C, r.WZ = 0x80, 0xFF80 }},
	})
}

// TestOdd: I and R, and digits.
func TestOdd(t *testing.T) {
	at := map[uint16]byte{0x9ABC: 0xE1, 0xFFFF: 0x12}
	runAll(t, []row{
		{code("ED 47"), no, at, 9, "", func(r *api.Regs) { r.I = 0x0A }},
		{code("ED 4F"), func(r *api.Regs) { r.A = 0x9C }, at, 9, "", func(r *api.Regs) { r.R = 0x9C }},
		{code("ED 57"), no, at, 9, "", func(r *api.Regs) { r.A, r.F = 0x3F, 0x2C }},
		{code("ED 57"), func(r *api.Regs) { r.F, r.IFF1, r.IFF2, r.I = 255, true, false, 0 }, at, 9, "", func(r *api.Regs) { r.A, r.F = 0, 0x41 }},
		{code("ED 5F"), no, at, 9, "", func(r *api.Regs) { r.A, r.F = 0x42, 4 }},
		{code("ED 5F"), func(r *api.Regs) { r.R, r.IFF2 = 0xFE, false }, at, 9, "", func(r *api.Regs) { r.A, r.R, r.F = 0x80, 0x80, 0x80 }},
		{code("DD ED 5F"), no, at, 9, "", func(r *api.Regs) { r.R++; r.A, r.F = 0x43, 4 }},
		{code("ED 67"), no, at, 18, "R9ABC W9ABC=AE", func(r *api.Regs) { r.A, r.F, r.WZ = 1, 0, 0x9ABD }},
		{code("ED 6F"), no, at, 18, "R9ABC W9ABC=1A", func(r *api.Regs) { r.A, r.F, r.WZ = 0x0E, 8, 0x9ABD }},
		{code("FD ED 6F"), func(r *api.Regs) { r.H, r.L, r.F = 255, 255, 255 }, at, 18, "RFFFF WFFFF=2A", func(r *api.Regs) { r.R++; r.A, r.F, r.WZ = 1, 1, 0 }},
	})
}

// TestMany: steps over many bytes, once.
func TestMany(t *testing.T) {
	at := map[uint16]byte{0x9ABC: 0x0A, 0xFFFF: 0xE4}
	last := func(r *api.Regs) { r.B, r.C = 0, 1 }
	lastB := func(r *api.Regs) { r.B = 1 }
	edge := func(r *api.Regs) { r.B, r.C, r.D, r.E, r.H, r.L, r.WZ = 0, 0, 0xFF, 0xFF, 0xFF, 0xFF, 0xFFFF }
	load := func(left uint16) byte { return repeat.Load(0x0A, 0x0A, 0, left) }
	in := newWorld(11, 0)
	v, w := in.inOf(0x1234), in.inOf(0x0134)
	runAll(t, []row{
		{code("ED A0"), no, at, 16, "R9ABC W5678=0A", func(r *api.Regs) { r.L, r.E, r.C, r.F = 0xBD, 0x79, 0x33, load(1) }},
		{code("DD ED A8"), no, at, 16, "R9ABC W5678=0A", func(r *api.Regs) { r.R++; r.L, r.E, r.C, r.F = 0xBB, 0x77, 0x33, load(1) }},
		{code("ED A0"), last, at, 16, "R9ABC W5678=0A", func(r *api.Regs) { r.L, r.E, r.C, r.F = 0xBD, 0x79, 0, load(0) }},
		{code("ED A0"), edge, at, 16, "RFFFF WFFFF=E4", func(r *api.Regs) {
			r.H, r.L, r.D, r.E, r.B, r.C, r.F = 0, 0, 0, 0, 255, 255, repeat.Load(0x0A, 0xE4, 0, 1)
		}},
		{code("ED B0"), no, at, 21, "R9ABC W5678=0A", func(r *api.Regs) { r.PC, r.WZ = 0x1000, 0x1001; r.L, r.E, r.C, r.F = 0xBD, 0x79, 0x33, load(1) }},
		{code("ED B8"), no, at, 21, "R9ABC W5678=0A", func(r *api.Regs) { r.PC, r.WZ = 0x1000, 0x1001; r.L, r.E, r.C, r.F = 0xBB, 0x77, 0x33, load(1) }},
		{code("ED B0"), last, at, 16, "R9ABC W5678=0A", func(r *api.Regs) { r.L, r.E, r.C, r.F = 0xBD, 0x79, 0, load(0) }},
		{code("ED A1"), no, at, 16, "R9ABC", func(r *api.Regs) { r.L, r.C, r.WZ, r.F = 0xBD, 0x33, 0x0BAE, 0x46 }},
		{code("ED A9"), last, at, 16, "R9ABC", func(r *api.Regs) { r.L, r.C, r.WZ, r.F = 0xBB, 0, 0x0BAC, 0x42 }},
		{code("ED A1"), edge, at, 16, "RFFFF", func(r *api.Regs) {
			f, _ := repeat.Seek(0x0A, 0xE4, 0, 1)
			r.H, r.L, r.B, r.C, r.WZ, r.F = 0, 0, 255, 255, 0, f
		}},
		{code("ED B1"), no, at, 16, "R9ABC", func(r *api.Regs) { r.L, r.C, r.WZ, r.F = 0xBD, 0x33, 0x0BAE, 0x46 }},
		{code("ED B1"), func(r *api.Regs) { r.A = 0x0B }, at, 21, "R9ABC", func(r *api.Regs) { r.PC = 0x1000; r.L, r.C, r.WZ, r.F = 0xBD, 0x33, 0x1001, 0x06 }},
		{code("ED B9"), func(r *api.Regs) { r.A, r.B, r.C = 0x0B, 0, 1 }, at, 16, "R9ABC", func(r *api.Regs) { r.L, r.C, r.WZ, r.F = 0xBB, 0, 0x0BAC, 0x02 }},
		{code("ED A2"), no, at, 16, "I1234@13 W9ABC=" + hex2(v), func(r *api.Regs) { r.B, r.L, r.WZ, r.F = 0x11, 0xBD, 0x1235, repeat.Port(v, 0x35, 0x11) }},
		{code("ED AA"), no, at, 16, "I1234@13 W9ABC=" + hex2(v), func(r *api.Regs) { r.B, r.L, r.WZ, r.F = 0x11, 0xBB, 0x1233, repeat.Port(v, 0x33, 0x11) }},
		{code("ED B2"), no, at, 21, "I1234@13 W9ABC=" + hex2(v), func(r *api.Regs) {
			r.PC = 0x1000
			r.B, r.L, r.WZ, r.F = 0x11, 0xBD, 0x1235, repeat.Port(v, 0x35, 0x11)
		}},
		{code("ED BA"), lastB, at, 16, "I0134@13 W9ABC=" + hex2(w), func(r *api.Regs) { r.B, r.L, r.WZ, r.F = 0, 0xBB, 0x0133, repeat.Port(w, 0x33, 0) }},
		{code("ED AA"), edge, at, 16, "I0000@13 WFFFF=" + hex2(in.inOf(0)), func(r *api.Regs) {
			r.B, r.L, r.WZ, r.F = 255, 254, 0xFFFF, repeat.Port(in.inOf(0), 255, 255)
		}},
		{code("ED A3"), no, at, 16, "R9ABC O1134=0A@13", func(r *api.Regs) { r.B, r.L, r.WZ, r.F = 0x11, 0xBD, 0x1135, repeat.Port(0x0A, 0xBD, 0x11) }},
		{code("ED AB"), no, at, 16, "R9ABC O1134=0A@13", func(r *api.Regs) { r.B, r.L, r.WZ, r.F = 0x11, 0xBB, 0x1133, repeat.Port(0x0A, 0xBB, 0x11) }},
		{code("ED B3"), lastB, at, 16, "R9ABC O0034=0A@13", func(r *api.Regs) { r.B, r.L, r.WZ, r.F = 0, 0xBD, 0x0035, repeat.Port(0x0A, 0xBD, 0) }},
		{code("FD ED BB"), no, at, 21, "R9ABC O1134=0A@13", func(r *api.Regs) {
			r.R++
			r.PC = 0x1001
			r.B, r.L, r.WZ, r.F = 0x11, 0xBB, 0x1133, repeat.Port(0x0A, 0xBB, 0x11)
		}},
		{code("ED B3"), edge, at, 21, "RFFFF OFF00=E4@13", func(r *api.Regs) {
			r.PC = 0x1000
			r.B, r.H, r.L, r.WZ, r.F = 255, 0, 0, 0xFF01, repeat.Port(0xE4, 0, 255)
		}},
		{code("ED B0"), func(r *api.Regs) { r.PC = 0xFFFF }, map[uint16]byte{0x9ABC: 0x0A}, 21, "R9ABC W5678=0A", func(r *api.Regs) { r.PC, r.WZ = 0xFFFF, 0; r.L, r.E, r.C, r.F = 0xBD, 0x79, 0x33, load(1) }},
	})
}

// TestManyToTheEnd: they go on as the same instruction, until they end.
func TestManyToTheEnd(t *testing.T) {
	// What is brought is 300 bytes.
	w := newWorld(4, 0x1000, ed, 0xB0)
	r, all, steps := api.Regs{PC: 0x1000, H: 0x20, D: 0x30, B: 1, C: 44}, 0, 0
	for r.PC == 0x1000 {
		n := 0
		r, n = cpu.Step(r, w)
		all += n
		steps++
	}
	if steps != 300 || all != 299*21+16 || r.B != 0 || r.C != 0 || r.R != 600%128 {
		t.Errorf("%d steps, %d clocks, %+v", steps, all, r)
	}
	for i := range uint16(300) {
		if w.peek(0x3000+i) != w.peek(0x2000+i) {
			t.Fatal(i)
		}
	}
	// One is looked for, and found at 20F0.
	w = newWorld(4, 0x1000, ed, 0xB1)
	for i := range uint16(0xF0) {
		w.lay(0x2000+i, 7)
	}
	w.lay(0x20F0, 9)
	r, all = api.Regs{PC: 0x1000, H: 0x20, A: 9, B: 5}, 0
	for r.PC == 0x1000 {
		n := 0
		r, n = cpu.Step(r, w)
		all += n
	}
	if all != 240*21+16 || r.H != 0x20 || r.L != 0xF1 || r.B != 4 || r.C != 0x0F || r.WZ != 0x1002 || r.F&api.FlagZ == 0 {
		t.Errorf("%d clocks, %+v", all, r)
	}
	// Out and in, 256 bytes each, as B begins as 0.
	for _, op := range []byte{0xB2, 0xB3, 0xBA, 0xBB} {
		w = newWorld(4, 0x1000, ed, op)
		r, all, steps = api.Regs{PC: 0x1000, H: 0x20}, 0, 0
		for r.PC == 0x1000 {
			n := 0
			r, n = cpu.Step(r, w)
			all += n
			steps++
		}
		if steps != 256 || all != 255*21+16 || r.B != 0 || r.F&api.FlagZ == 0 {
			t.Errorf("%X: %d steps, %d clocks, %+v", op, steps, all, r)
		}
	}
}

// clocksOf are how many clocks the page Plain takes, of conditions that aren't met; the prefixes' are 4.
func clocksOf() [256]int {
	var out [256]int
	copy(out[:], []int{
		4, 10, 7, 6, 4, 4, 7, 4, 4, 11, 7, 6, 4, 4, 7, 4,
		8, 10, 7, 6, 4, 4, 7, 4, 12, 11, 7, 6, 4, 4, 7, 4,
		7, 10, 16, 6, 4, 4, 7, 4, 7, 11, 16, 6, 4, 4, 7, 4,
		7, 10, 13, 6, 11, 11, 10, 4, 7, 11, 13, 6, 4, 4, 7, 4,
	})
	for op := 64; op < 192; op++ {
		out[op] = 4
		if op%8 == 6 || op >= 112 && op < 120 {
			out[op] = 7
		}
	}
	out[118] = 4
	copy(out[192:], []int{
		5, 10, 10, 10, 10, 11, 7, 11, 5, 10, 10, 0, 10, 17, 7, 11,
		5, 10, 10, 11, 10, 11, 7, 11, 5, 4, 10, 11, 10, 4, 7, 11,
		5, 10, 10, 19, 10, 11, 7, 11, 5, 4, 10, 4, 10, 0, 7, 11,
		5, 10, 10, 4, 10, 11, 7, 11, 5, 6, 10, 4, 10, 4, 7, 11,
	})
	return out
}

// unmet tells flags by which the condition of an op isn't met; met tells those by which it is.
func unmet(y int) byte { return [8]byte{64, 0, 1, 0, 4, 0, 128, 0}[y] }

func met(y int) byte { return [8]byte{0, 64, 0, 1, 0, 4, 0, 128}[y] }

// hangsOn tells the condition of an op of the page Plain, and how many clocks more it takes if it is met; -1, if it has none.
func hangsOn(op int) (int, int) {
	switch {
	case op >= 32 && op < 64 && op%8 == 0:
		return op/8 - 4, 5
	case op >= 192 && op%8 == 0:
		return op / 8 % 8, 6
	case op >= 192 && op%8 == 2:
		return op / 8 % 8, 0
	case op >= 192 && op%8 == 4:
		return op / 8 % 8, 7
	}
	return -1, 0
}

// TestPlainClocks: of each op of the pages Plain, DD and FD, met and not.
func TestPlainClocks(t *testing.T) {
	for op, want := range clocksOf() {
		if op == cb || op == ed {
			continue
		}
		for _, ahead := range aheads() {
			clocks := want
			if ahead != 0 && strings.Contains(names.Pattern(api.DD, byte(op)), "(IX+d)") {
				clocks = map[int]int{7: 15, 10: 15, 11: 19}[want]
			}
			y, more := hangsOn(op)
			r := api.Regs{PC: 0x1000, B: 1, Prefix: ahead}
			if y >= 0 {
				r.F = met(y)
				if _, n := cpu.Step(r, newWorld(1, 0x1000, byte(op))); n != clocks+more {
					t.Errorf("%d behind %d, met: %d", op, ahead, n)
				}
				r.F = unmet(y)
			}
			if _, n := cpu.Step(r, newWorld(1, 0x1000, byte(op))); n != clocks {
				t.Errorf("%d behind %d: %d", op, ahead, n)
			}
			r.B = 5
			if _, n := cpu.Step(r, newWorld(1, 0x1000, byte(op))); op == 16 && n != 13 {
				t.Errorf("DJNZ: %d", n)
			}
		}
	}
}

// TestRareClocks: of each op of the page ED; of those that go on 21, else 16.
func TestRareClocks(t *testing.T) {
	row := [16]int{12, 12, 15, 20, 8, 14, 8, 9, 12, 12, 15, 20, 8, 14, 8, 9}
	for op := range 256 {
		want := 8
		switch {
		case op == 0x67 || op == 0x6F:
			want = 18
		case op == 0x77 || op == 0x7F:
			want = 8
		case op >= 64 && op < 128:
			want = row[op%16]
		case op >= 160 && op < 192 && op%8 < 4:
			want = 16
		}
		for _, ahead := range aheads() {
			r := api.Regs{PC: 0x1000, B: 1, C: 0, H: 0x20, D: 0x30, Prefix: ahead}
			if op%8 < 2 {
				r.B, r.C = 0, 1
			}
			if _, n := cpu.Step(r, newWorld(1, 0x1000, ed, byte(op))); n != want {
				t.Errorf("ED %d: %d", op, n)
			}
			r.B, r.C, r.A = 5, 5, newWorld(1, 0).peek(0x2000)+1
			_, n := cpu.Step(r, newWorld(1, 0x1000, ed, byte(op)))
			if again := op >= 0xB0 && want == 16; again && n != 21 || !again && n != want {
				t.Errorf("ED %d, with more: %d", op, n)
			}
		}
	}
}

// TestBitClocks: of each op of the pages CB, DDCB and FDCB.
func TestBitClocks(t *testing.T) {
	for op := range 256 {
		want, far := 8, 19
		if op%8 == 6 {
			want = 15
		}
		if op >= 64 && op < 128 {
			far = 16
			if op%8 == 6 {
				want = 12
			}
		}
		if _, n := cpu.Step(api.Regs{PC: 0x1000}, newWorld(1, 0x1000, cb, byte(op))); n != want {
			t.Errorf("CB %d: %d", op, n)
		}
		for _, ahead := range []byte{dd, fd} {
			if _, n := cpu.Step(api.Regs{PC: 0x1000, Prefix: ahead}, newWorld(1, 0x1000, cb, 9, byte(op))); n != far {
				t.Errorf("%d CB %d: %d", ahead, op, n)
			}
		}
	}
}

// TestAllSums: sums of one kind are told apart, of all of A and many others, with a carry and without.
func TestAllSums(t *testing.T) {
	for y := range 8 {
		for a := range 256 {
			for _, b := range []byte{0, 1, 9, 15, 16, 127, 128, 200, 255} {
				for _, f := range []byte{0, 1, 254, 255} {
					r := api.Regs{A: byte(a), F: f, E: b, PC: 0x1000}
					v, flags := sums.Do(y, byte(a), b, f)
					for _, c := range [][]byte{{byte(128 + 8*y + 3)}, {byte(198 + 8*y), b}} {
						got, _ := cpu.Step(r, newWorld(1, 0x1000, c...))
						if got.A != v || got.F != flags || got.E != b {
							t.Fatalf("%X of %d and %d: %+v", c, a, b, got)
						}
					}
				}
			}
		}
	}
	for _, hl := range []uint16{0, 1, 0x0FFF, 0x7FFF, 0x8000, 0xFFFF} {
		for _, de := range []uint16{0, 1, 0x0FFF, 0x7FFF, 0x8000, 0xFFFF} {
			for f := range 256 {
				r := regs.SetPair(regs.SetPair(api.Regs{F: byte(f), PC: 0x1000}, api.HL, hl), api.DE, de)
				for i, sum := range []func(a, b uint16, f byte) (uint16, byte){pairs.Add, pairs.Sbc, pairs.Adc} {
					c := [][]byte{{0x19}, {ed, 0x52}, {ed, 0x5A}}[i]
					v, flags := sum(hl, de, byte(f))
					got, _ := cpu.Step(r, newWorld(1, 0x1000, c...))
					if regs.Pair(got, api.HL) != v || got.F != flags || got.WZ != hl+1 {
						t.Fatalf("%X of %d and %d: %+v", c, hl, de, got)
					}
				}
			}
		}
	}
}

// P12.5

// TestInterrupt: against the chapter's words, whatever registers are and whatever comes.
func TestInterrupt(t *testing.T) {
	d := dice(20251)
	came := map[int]int{}
	for range 40000 {
		r := d.regs()
		r.Halted = d.coin()
		if d.roll(4) == 0 {
			r.Prefix = aheads()[d.roll(3)]
		}
		pause, line := d.roll(3) == 0, d.coin()
		w := newWorld(uint32(d.roll(1<<30)), 0)
		m := model{Regs: r, w: newWorld(w.seed, 0)}
		clocks := m.interrupt(pause, line)
		got, n := cpu.Interrupt(r, w, pause, line)
		if got != m.Regs || n != clocks || w.told() != m.w.told() {
			t.Fatalf("%+v, %v, %v: %+v in %d, %s; not %+v in %d, %s", r, pause, line, got, n, w.told(), m.Regs, clocks, m.w.told())
		}
		came[n]++
	}
	for _, n := range []int{0, 11, 13, 19} {
		if came[n] < 100 {
			t.Errorf("%d clocks came %d times", n, came[n])
		}
	}
}

// between is what comes between, with what, and what comes of it.
type between struct {
	name        string
	with        func(r *api.Regs)
	pause, line bool
	clocks      int
	log         string
	want        func(r *api.Regs)
}

// TestWhatComesBetween: by rows.
func TestWhatComesBetween(t *testing.T) {
	pushed := "WCFFF=10 WCFFE=00"
	paused := func(r *api.Regs) { r.IFF1, r.PC, r.WZ, r.SP, r.R = false, 102, 102, 0xCFFE, 0x41 }
	lined := func(r *api.Regs) {
		r.IFF1, r.IFF2, r.PC, r.WZ, r.SP, r.R = false, false, 56, 56, 0xCFFE, 0x41
	}
	on := func(r *api.Regs) { r.IFF1 = true }
	mode := func(im byte) func(r *api.Regs) { return func(r *api.Regs) { r.IFF1, r.IM = true, im } }
	mem := newWorld(8, 0)
	vector := uint16(mem.peek(0x3FFF)) + 256*uint16(mem.peek(0x4000))
	for _, x := range []between{
		{"nothing", on, false, false, 0, "", no},
		{"pause", no, true, false, 11, pushed, paused},
		{"pause, IFF1", on, true, false, 11, pushed, paused},
		{"pause without IFF2", func(r *api.Regs) { r.IFF1, r.IFF2 = true, false }, true, false, 11, pushed, paused},
		{"pause and line", on, true, true, 11, pushed, paused},
		{"pause, Halted", func(r *api.Regs) { r.Halted = true }, true, false, 11, pushed, func(r *api.Regs) { paused(r); r.Halted = false }},
		{"pause, Delay", func(r *api.Regs) { r.Delay = true }, true, true, 11, pushed, paused},
		{"pause, IM 2", mode(2), true, true, 11, pushed, paused},
		{"line", on, false, true, 13, pushed, lined},
		{"line, IM 0", mode(0), false, true, 13, pushed, lined},
		{"line, IM 1", mode(1), false, true, 13, pushed, lined},
		{"line, IM 2", mode(2), false, true, 19, pushed + " R3FFF R4000", func(r *api.Regs) { lined(r); r.PC, r.WZ = vector, vector }},
		{"line without IFF1", no, false, true, 0, "", no},
		{"line, Delay", func(r *api.Regs) { r.IFF1, r.Delay = true, true }, false, true, 0, "", no},
		{"line, Halted", func(r *api.Regs) { r.IFF1, r.Halted = true, true }, false, true, 13, pushed, func(r *api.Regs) { lined(r); r.Halted = false }},
		{"line, Halted, without IFF1", func(r *api.Regs) { r.Halted = true }, false, true, 0, "", no},
		{"pause, DD", func(r *api.Regs) { r.Prefix = dd }, true, true, 0, "", no},
		{"pause, FD, Halted", func(r *api.Regs) { r.Prefix, r.Halted = fd, true }, true, false, 0, "", no},
		{"line, FD", func(r *api.Regs) { r.Prefix, r.IFF1 = fd, true }, false, true, 0, "", no},
		{"R goes round", func(r *api.Regs) { r.R = 0xFF }, true, false, 11, pushed, func(r *api.Regs) { paused(r); r.R = 0x80 }},
	} {
		r := apart()
		x.with(&r)
		want := r
		x.want(&want)
		w := newWorld(8, 0)
		got, n := cpu.Interrupt(r, w, x.pause, x.line)
		if got != want || n != x.clocks || w.told() != x.log {
			t.Errorf("%s: %+v in %d, %s; not %+v in %d, %s", x.name, got, n, w.told(), want, x.clocks, x.log)
		}
	}
}

// TestVectorAtTheEnds: its address goes round, and it is read behind the push, which may write it.
func TestVectorAtTheEnds(t *testing.T) {
	w := newWorld(8, 0xFFFF, 0x34, 0x12)
	r, n := cpu.Interrupt(api.Regs{I: 255, IM: 2, IFF1: true, SP: 0x8000}, w, false, true)
	if r.PC != 0x1234 || r.WZ != 0x1234 || n != 19 || w.told() != "W7FFF=00 W7FFE=00 RFFFF R0000" {
		t.Errorf("%+v in %d, %s", r, n, w.told())
	}
	w = newWorld(8, 0)
	r, _ = cpu.Interrupt(api.Regs{I: 0x20, IM: 2, IFF1: true, SP: 0x2101, PC: 0xABCD}, w, false, true)
	if r.PC != 0xABCD || w.told() != "W2100=AB W20FF=CD R20FF R2100" {
		t.Errorf("%+v, %s", r, w.told())
	}
	w = newWorld(8, 0)
	r, _ = cpu.Interrupt(api.Regs{SP: 1, PC: 0xABCD}, w, true, false)
	if r.SP != 0xFFFF || w.told() != "W0000=AB WFFFF=CD" {
		t.Errorf("%+v, %s", r, w.told())
	}
}

// TestEnableThenInterrupt: behind EI one more instruction comes ahead of a line's interrupt; behind a wait it comes at once.
func TestEnableThenInterrupt(t *testing.T) {
	w := newWorld(8, 0x1000, 0xFB, 0x76)
	r, _ := cpu.Step(api.Regs{PC: 0x1000, SP: 0x8000}, w)
	if _, n := cpu.Interrupt(r, w, false, true); n != 0 {
		t.Errorf("at once: %d", n)
	}
	r, _ = cpu.Step(r, w)
	r, _ = cpu.Step(r, w)
	r, n := cpu.Interrupt(r, w, false, true)
	if n != 13 || r.PC != 56 || r.Halted || w.peek(0x7FFE) != 0x02 || w.peek(0x7FFF) != 0x10 {
		t.Errorf("%+v in %d", r, n)
	}
}

// P1 and P2

// TestWrongRegisters: registers that can't be; it ends all the same, and takes some clocks.
func TestWrongRegisters(t *testing.T) {
	d := dice(99)
	for range 30000 {
		r := d.regs()
		r.IM, r.Prefix, r.Halted = byte(d.roll(256)), byte(d.roll(256)), d.roll(9) == 0
		w := newWorld(uint32(d.roll(1<<30)), r.PC, []byte{cb, dd, ed, fd, d.byte()}[d.roll(5)])
		if _, n := cpu.Step(r, w); n < 4 || n > 21 {
			t.Fatalf("%+v: %d", r, n)
		}
		cpu.Interrupt(r, w, d.coin(), d.coin())
	}
}

// TestNoWorld: a World that isn't there reads 0, and takes what comes; a wait doesn't need one.
func TestNoWorld(t *testing.T) {
	r, n := cpu.Step(api.Regs{PC: 7}, nil)
	if r != (api.Regs{PC: 8, R: 1}) || n != 4 {
		t.Errorf("%+v in %d", r, n)
	}
	r, n = cpu.Step(api.Regs{Halted: true}, nil)
	if r != (api.Regs{Halted: true, R: 1}) || n != 4 {
		t.Errorf("%+v in %d", r, n)
	}
	r, n = cpu.Interrupt(api.Regs{IM: 2, IFF1: true, PC: 9}, nil, false, true)
	if r != (api.Regs{IM: 2, R: 1, SP: 0xFFFE}) || n != 19 {
		t.Errorf("%+v in %d", r, n)
	}
}

// TestAskedAgain: of the same registers and the same world the same comes, whatever was asked between.
func TestAskedAgain(t *testing.T) {
	type answer struct {
		r   api.Regs
		n   int
		log string
	}
	ask := func() []answer {
		d := dice(31337)
		var out []answer
		for range 5000 {
			r := d.regs()
			r.Prefix, r.Halted = aheads()[d.roll(3)], d.roll(20) == 0
			w := newWorld(uint32(d.roll(1<<30)), r.PC, d.code(4)...)
			got, n := cpu.Step(r, w)
			out = append(out, answer{got, n, w.told()})
			got, n = cpu.Interrupt(r, w, d.coin(), d.coin())
			out = append(out, answer{got, n, w.told()})
		}
		return out
	}
	first := ask()
	for i, x := range ask() {
		if x != first[i] {
			t.Fatalf("%d: %+v, not %+v", i, x, first[i])
		}
	}
}
