package cpu_test

import (
	"slices"
	"strconv"
	"strings"

	"joystick/api"
	"joystick/names"
	"joystick/pairs"
	"joystick/repeat"
	"joystick/sums"
	"joystick/turns"
)

// model is a processor as the chapter tells it: it goes by an instruction's name, not by its bits.
type model struct {
	api.Regs
	w    *world
	page int
	d    int  // d, if it stood ahead of the op
	hasD bool // did it?
}

// signed tells a byte as a number from -128 to 127.
func signed(v byte) int {
	if v > 127 {
		return int(v) - 256
	}
	return int(v)
}

// whole tells the number of two bytes.
func whole(high, low byte) uint16 { return uint16(int(high)*256 + int(low)) }

// tick: R's lowest seven bits are one more.
func (m *model) tick() { m.R = m.R/128*128 + (m.R%128+1)%128 }

func (m *model) next() byte {
	v := m.w.Read(m.PC)
	m.PC++
	return v
}

func (m *model) fetch() byte {
	v := m.next()
	m.tick()
	return v
}

func (m *model) nn() uint16 {
	low := m.next()
	return whole(m.next(), low)
}

func (m *model) push(v uint16) {
	m.SP--
	m.w.Write(m.SP, byte(v/256))
	m.SP--
	m.w.Write(m.SP, byte(v%256))
}

func (m *model) pop() uint16 {
	low := m.w.Read(m.SP)
	m.SP++
	high := m.w.Read(m.SP)
	m.SP++
	return whole(high, low)
}

// has tells whether a flag is there.
func (m *model) has(flag byte) bool { return m.F/flag%2 == 1 }

// met tells whether a condition is, by its letters.
func (m *model) met(letters string) bool {
	switch letters {
	case "NZ":
		return !m.has(64)
	case "Z":
		return m.has(64)
	case "NC":
		return !m.has(1)
	case "C":
		return m.has(1)
	case "PO":
		return !m.has(4)
	case "PE":
		return m.has(4)
	case "P":
		return !m.has(128)
	case "M":
		return m.has(128)
	}
	panic("no condition: " + letters)
}

// single tells where a register of a letter is; nil, if it is half of IX or of IY.
func (m *model) single(name string) *byte {
	switch name {
	case "A":
		return &m.A
	case "B":
		return &m.B
	case "C":
		return &m.C
	case "D":
		return &m.D
	case "E":
		return &m.E
	case "H":
		return &m.H
	case "L":
		return &m.L
	}
	return nil
}

func (m *model) get(name string) byte {
	switch name {
	case "IXH":
		return byte(m.IX / 256)
	case "IXL":
		return byte(m.IX % 256)
	case "IYH":
		return byte(m.IY / 256)
	case "IYL":
		return byte(m.IY % 256)
	}
	return *m.single(name)
}

func (m *model) put(name string, v byte) {
	switch name {
	case "IXH":
		m.IX = whole(v, byte(m.IX%256))
	case "IXL":
		m.IX = whole(byte(m.IX/256), v)
	case "IYH":
		m.IY = whole(v, byte(m.IY%256))
	case "IYL":
		m.IY = whole(byte(m.IY/256), v)
	default:
		*m.single(name) = v
	}
}

// isPair tells whether a name is a pair's.
func isPair(name string) bool {
	return slices.Contains([]string{"BC", "DE", "HL", "SP", "AF", "IX", "IY"}, name)
}

func (m *model) pair(name string) uint16 {
	switch name {
	case "SP":
		return m.SP
	case "IX":
		return m.IX
	case "IY":
		return m.IY
	case "AF":
		return whole(m.A, m.F)
	}
	return whole(m.get(name[:1]), m.get(name[1:]))
}

func (m *model) setPair(name string, v uint16) {
	switch name {
	case "SP":
		m.SP = v
	case "IX":
		m.IX = v
	case "IY":
		m.IY = v
	case "AF":
		m.A, m.F = byte(v/256), byte(v%256)
	default:
		m.put(name[:1], byte(v/256))
		m.put(name[1:], byte(v%256))
	}
}

// inMemory tells whether a name is that of a place.
func inMemory(name string) bool { return strings.HasPrefix(name, "(") }

// withD tells whether it is that of a place beside IX or IY.
func withD(name string) bool { return strings.HasSuffix(name, "+d)") }

// place tells where it is.
func (m *model) place(name string) uint16 {
	if name == "(nn)" {
		return m.nn()
	}
	if !withD(name) {
		return m.pair(name[1:3])
	}
	d := m.d
	if !m.hasD {
		d = signed(m.next())
	}
	m.WZ = uint16((int(m.pair(name[1:3])) + d + 65536) % 65536)
	return m.WZ
}

// either tells the first number of (HL), the second one of (IX+d).
func either(name string, first, second int) int {
	if withD(name) {
		return second
	}
	return first
}

// step does a step, and tells its clocks.
func (m *model) step() int {
	if m.Halted {
		m.tick()
		return 4
	}
	m.Delay = false
	ahead := m.Prefix
	m.Prefix = 0
	op := m.fetch()
	switch {
	case op == 221 || op == 253:
		m.Prefix = op
		return 4
	case op == 237:
		return m.do(api.ED, m.fetch())
	case op == 203 && ahead == 0:
		return m.do(api.CB, m.fetch())
	case op == 203:
		m.d, m.hasD = signed(m.next()), true
		if ahead == 221 {
			return m.do(api.DDCB, m.next())
		}
		return m.do(api.FDCB, m.next())
	case ahead == 221:
		return m.do(api.DD, op)
	case ahead == 253:
		return m.do(api.FD, op)
	}
	return m.do(api.Plain, op)
}

// do does what an instruction of a page is called.
func (m *model) do(page int, op byte) int {
	m.page = page
	name := names.Pattern(page, op)
	word, rest, _ := strings.Cut(name, " ")
	args := strings.Split(rest, ",")
	if strings.HasPrefix(name, "JP (") {
		m.PC = m.pair(args[0][1:3])
		return 4
	}
	switch word {
	case "LD":
		return m.load(args[0], args[1])
	case "INC", "DEC":
		return m.count(word, args[0])
	case "ADD", "ADC", "SBC", "SUB", "AND", "XOR", "OR", "CP":
		return m.sum(word, args)
	case "JP", "JR", "CALL", "DJNZ", "RET", "RST", "RETN", "RETI":
		return m.jump(word, args)
	case "PUSH":
		m.push(m.pair(args[0]))
		return 11
	case "POP":
		m.setPair(args[0], m.pop())
		return 10
	case "EX", "EXX":
		return m.change(word, args)
	case "IN", "OUT":
		return m.port(word, args)
	case "BIT", "RES", "SET", "RLC", "RRC", "RL", "RR", "SLA", "SRA", "SLL", "SRL":
		return m.onBits(word, args)
	case "RRD", "RLD":
		return m.digits(word == "RLD")
	case "IM":
		m.IM = args[0][0] - '0'
		return 8
	case "NEG":
		m.A, m.F = sums.Sub(0, m.A, false)
		return 8
	case "NOP":
		if page == api.ED {
			return 8
		}
		return 4
	case "HALT", "DI", "EI", "RLCA", "RRCA", "RLA", "RRA", "DAA", "CPL", "SCF", "CCF":
		m.alone(word)
		return 4
	}
	return m.many(word)
}

// alone does those of four clocks that have nothing beside their word.
func (m *model) alone(word string) {
	switch word {
	case "HALT":
		m.Halted = true
	case "DI":
		m.IFF1, m.IFF2 = false, false
	case "EI":
		m.IFF1, m.IFF2, m.Delay = true, true, true
	case "RLCA":
		m.A, m.F = turns.Quick(0, m.A, m.F)
	case "RRCA":
		m.A, m.F = turns.Quick(1, m.A, m.F)
	case "RLA":
		m.A, m.F = turns.Quick(2, m.A, m.F)
	case "RRA":
		m.A, m.F = turns.Quick(3, m.A, m.F)
	case "DAA":
		m.A, m.F = sums.Daa(m.A, m.F)
	case "CPL":
		m.A, m.F = sums.Flip(0, m.A, m.F)
	case "SCF":
		m.A, m.F = sums.Flip(1, m.A, m.F)
	case "CCF":
		m.A, m.F = sums.Flip(2, m.A, m.F)
	}
}

// load does LD.
func (m *model) load(to, from string) int {
	switch {
	case to == "I" || to == "R" || from == "I" || from == "R":
		return m.loadOdd(to, from)
	case isPair(to) || isPair(from):
		return m.loadPair(to, from)
	case inMemory(to):
		a := m.place(to)
		clocks := either(to, 7, 15)
		if from == "n" {
			m.w.Write(a, m.next())
			return either(to, 10, 15)
		}
		m.w.Write(a, m.get(from))
		if to == "(BC)" || to == "(DE)" || to == "(nn)" {
			m.WZ = whole(m.A, byte((int(a)+1)%256))
		}
		if to == "(nn)" {
			clocks = 13
		}
		return clocks
	case inMemory(from):
		a := m.place(from)
		m.put(to, m.w.Read(a))
		if from == "(BC)" || from == "(DE)" || from == "(nn)" {
			m.WZ = uint16((int(a) + 1) % 65536)
		}
		if from == "(nn)" {
			return 13
		}
		return either(from, 7, 15)
	case from == "n":
		m.put(to, m.next())
		return 7
	}
	m.put(to, m.get(from))
	return 4
}

// loadOdd does those with I and R.
func (m *model) loadOdd(to, from string) int {
	switch {
	case to == "I":
		m.I = m.A
		return 9
	case to == "R":
		m.R = m.A
		return 9
	case from == "I":
		m.A = m.I
	default:
		m.A = m.R
	}
	m.came(m.A, m.IFF2)
	return 9
}

// came tells the Shape of a byte, FlagP by what is said, FlagC as F's.
func (m *model) came(v byte, p bool) {
	f := sums.Shape(v) + m.F%2
	if p {
		f += 4
	}
	m.F = f
}

// loadPair does those of two bytes.
func (m *model) loadPair(to, from string) int {
	clocks := 16
	if m.page == api.ED {
		clocks = 20
	}
	switch {
	case from == "nn":
		m.setPair(to, m.nn())
		return 10
	case inMemory(to):
		a := m.nn()
		m.WZ = a + 1
		m.w.Write(a, byte(m.pair(from)%256))
		m.w.Write(a+1, byte(m.pair(from)/256))
		return clocks
	case inMemory(from):
		a := m.nn()
		m.WZ = a + 1
		low := m.w.Read(a)
		m.setPair(to, whole(m.w.Read(a+1), low))
		return clocks
	}
	m.SP = m.pair(from)
	return 6
}

// count does INC and DEC.
func (m *model) count(word, name string) int {
	if isPair(name) {
		more := 1
		if word == "DEC" {
			more = 65535
		}
		m.setPair(name, uint16((int(m.pair(name))+more)%65536))
		return 6
	}
	sum := sums.Inc
	if word == "DEC" {
		sum = sums.Dec
	}
	if inMemory(name) {
		a := m.place(name)
		v, f := sum(m.w.Read(a), m.F)
		m.w.Write(a, v)
		m.F = f
		return either(name, 11, 19)
	}
	v, f := sum(m.get(name), m.F)
	m.put(name, v)
	m.F = f
	return 4
}

// sum does those of two bytes, and the eight ones.
func (m *model) sum(word string, args []string) int {
	if len(args) == 2 && isPair(args[0]) {
		was := m.pair(args[0])
		sum, clocks := pairs.Add, 11
		switch word {
		case "ADC":
			sum, clocks = pairs.Adc, 15
		case "SBC":
			sum, clocks = pairs.Sbc, 15
		}
		v, f := sum(was, m.pair(args[1]), m.F)
		m.setPair(args[0], v)
		m.F = f
		m.WZ = was + 1
		return clocks
	}
	from := args[len(args)-1]
	v, clocks := byte(0), 4
	switch {
	case from == "n":
		v, clocks = m.next(), 7
	case inMemory(from):
		v, clocks = m.w.Read(m.place(from)), either(from, 7, 15)
	default:
		v = m.get(from)
	}
	switch word {
	case "ADD":
		m.A, m.F = sums.Add(m.A, v, false)
	case "ADC":
		m.A, m.F = sums.Add(m.A, v, m.has(1))
	case "SUB":
		m.A, m.F = sums.Sub(m.A, v, false)
	case "SBC":
		m.A, m.F = sums.Sub(m.A, v, m.has(1))
	case "AND":
		m.A, m.F = sums.And(m.A, v)
	case "XOR":
		m.A, m.F = sums.Xor(m.A, v)
	case "OR":
		m.A, m.F = sums.Or(m.A, v)
	case "CP":
		m.F = sums.Compare(m.A, v)
	}
	return clocks
}

// jump does what changes PC.
func (m *model) jump(word string, args []string) int {
	// A condition stands ahead of where it goes; RET has it alone.
	is, has := true, len(args) == 2 || word == "RET" && args[0] != ""
	if has {
		is = m.met(args[0])
	}
	switch word {
	case "JP":
		m.WZ = m.nn()
		if is {
			m.PC = m.WZ
		}
		return 10
	case "JR":
		return m.hop(is, 12, 7)
	case "DJNZ":
		m.B--
		return m.hop(m.B != 0, 13, 8)
	case "CALL":
		m.WZ = m.nn()
		if !is {
			return 10
		}
		m.push(m.PC)
		m.PC = m.WZ
		return 17
	case "RST":
		to, _ := strconv.Atoi(args[0])
		m.push(m.PC)
		m.PC, m.WZ = uint16(to), uint16(to)
		return 11
	}
	if !is {
		return 5
	}
	m.PC = m.pop()
	m.WZ = m.PC
	if word == "RET" {
		if has {
			return 11
		}
		return 10
	}
	m.IFF1 = m.IFF2
	return 14
}

func (m *model) hop(is bool, then, otherwise int) int {
	e := signed(m.next())
	if !is {
		return otherwise
	}
	m.PC = uint16((int(m.PC) + e + 65536) % 65536)
	m.WZ = m.PC
	return then
}

// change does EX and EXX.
func (m *model) change(word string, args []string) int {
	x := &m.Alt
	switch {
	case word == "EXX":
		m.B, m.C, m.D, m.E, m.H, m.L, x[2], x[3], x[4], x[5], x[6], x[7] = x[2], x[3], x[4], x[5], x[6], x[7], m.B, m.C, m.D, m.E, m.H, m.L
	case args[0] == "AF":
		m.A, m.F, x[0], x[1] = x[0], x[1], m.A, m.F
	case args[0] == "DE":
		m.D, m.E, m.H, m.L = m.H, m.L, m.D, m.E
	default:
		low := m.w.Read(m.SP)
		v := whole(m.w.Read(m.SP+1), low)
		m.w.Write(m.SP, byte(m.pair(args[1])%256))
		m.w.Write(m.SP+1, byte(m.pair(args[1])/256))
		m.setPair(args[1], v)
		m.WZ = v
		return 19
	}
	return 4
}

// port does IN and OUT.
func (m *model) port(word string, args []string) int {
	bc := m.pair("BC")
	switch {
	case args[len(args)-1] == "(n)":
		port := whole(m.A, m.next())
		m.A = m.w.In(port, 8)
		m.WZ = port + 1
		return 11
	case args[0] == "(n)":
		n := m.next()
		m.w.Out(whole(m.A, n), m.A, 8)
		m.WZ = whole(m.A, byte((int(n)+1)%256))
		return 11
	case word == "IN":
		v := m.w.In(bc, 9)
		m.came(v, sums.Parity(v))
		if len(args) == 2 {
			m.put(args[0], v)
		}
	case args[1] == "0":
		m.w.Out(bc, 0, 9)
	default:
		m.w.Out(bc, m.get(args[1]), 9)
	}
	m.WZ = bc + 1
	return 12
}

// onBits does what is done to bits: of y and where, or of where alone, and of where it goes, too.
func (m *model) onBits(word string, args []string) int {
	y := 0
	if word == "BIT" || word == "RES" || word == "SET" {
		y = int(args[0][0] - '0')
		args = args[1:]
	}
	where := args[0]
	if !inMemory(where) {
		v := m.get(where)
		if word == "BIT" {
			m.F = turns.Bit(y, v, m.F, v)
			return 8
		}
		m.put(where, m.turned(word, y, v))
		return 8
	}
	a := m.place(where)
	v := m.w.Read(a)
	if word == "BIT" {
		m.F = turns.Bit(y, v, m.F, byte(m.WZ/256))
		return either(where, 12, 16)
	}
	v = m.turned(word, y, v)
	m.w.Write(a, v)
	if len(args) == 2 {
		m.put(args[1], v)
	}
	return either(where, 15, 19)
}

func (m *model) turned(word string, y int, v byte) byte {
	if word == "RES" || word == "SET" {
		return turns.Put(y, v, word == "SET")
	}
	op := slices.Index([]string{"RLC", "RRC", "RL", "RR", "SLA", "SRA", "SLL", "SRL"}, word)
	v, m.F = turns.Rot(op, v, m.F)
	return v
}

func (m *model) digits(left bool) int {
	hl := m.pair("HL")
	a, v, f := turns.Digits(left, m.A, m.w.Read(hl), m.F)
	m.w.Write(hl, v)
	m.A, m.F = a, f
	m.WZ = hl + 1
	return 18
}

// more moves a pair by BY.
func (m *model) more(name string, by int) {
	m.setPair(name, uint16((int(m.pair(name))+by+65536)%65536))
}

// many does the steps over many bytes.
func (m *model) many(word string) int {
	again := strings.HasSuffix(word, "R")
	by := -1
	if strings.HasSuffix(strings.TrimSuffix(word, "R"), "I") {
		by = 1
	}
	on := false
	switch word[:2] {
	case "LD":
		v := m.w.Read(m.pair("HL"))
		m.w.Write(m.pair("DE"), v)
		m.more("HL", by)
		m.more("DE", by)
		m.more("BC", -1)
		m.F = repeat.Load(m.A, v, m.F, m.pair("BC"))
		on = m.pair("BC") != 0
	case "CP":
		v := m.w.Read(m.pair("HL"))
		m.more("HL", by)
		m.WZ = uint16((int(m.WZ) + by + 65536) % 65536)
		m.more("BC", -1)
		m.F, on = repeat.Seek(m.A, v, m.F, m.pair("BC"))
	case "IN":
		m.WZ = uint16((int(m.pair("BC")) + by + 65536) % 65536)
		v := m.w.In(m.pair("BC"), 13)
		m.w.Write(m.pair("HL"), v)
		m.B--
		m.more("HL", by)
		m.F = repeat.Port(v, byte((int(m.C)+by+256)%256), m.B)
		on = m.B != 0
	case "OU", "OT":
		v := m.w.Read(m.pair("HL"))
		m.B--
		m.w.Out(m.pair("BC"), v, 13)
		m.more("HL", by)
		m.WZ = uint16((int(m.pair("BC")) + by + 65536) % 65536)
		m.F = repeat.Port(v, m.L, m.B)
		on = m.B != 0
	default:
		panic("no such instruction: " + word)
	}
	if !again || !on {
		return 16
	}
	m.PC -= 2
	if word[:2] == "LD" || word[:2] == "CP" {
		m.WZ = m.PC + 1
	}
	return 21
}

// interrupt does what comes between.
func (m *model) interrupt(pause, line bool) int {
	if m.Prefix != 0 {
		return 0
	}
	if pause {
		m.Halted, m.IFF1 = false, false
		m.tick()
		m.push(m.PC)
		m.PC, m.WZ = 102, 102
		return 11
	}
	if !line || !m.IFF1 || m.Delay {
		return 0
	}
	m.Halted, m.IFF1, m.IFF2 = false, false, false
	m.tick()
	m.push(m.PC)
	if m.IM != 2 {
		m.PC, m.WZ = 56, 56
		return 13
	}
	a := whole(m.I, 255)
	low := m.w.Read(a)
	m.PC = whole(m.w.Read(a+1), low)
	m.WZ = m.PC
	return 19
}
