package names_test

import (
	"bytes"
	"fmt"
	"math"
	"strings"
	"testing"

	"joystick/api"
	"joystick/names"
)

// thePages have these numbers.
var thePages = []string{"Plain", "CB", "ED", "DD", "FD", "DDCB", "FDCB"}

// theRegisters are r.
var theRegisters = []string{"B", "C", "D", "E", "H", "L", "(HL)", "A"}

// A row is sixteen patterns, one behind the other.
const plainRows = `NOP|LD BC,nn|LD (BC),A|INC BC|INC B|DEC B|LD B,n|RLCA|EX AF,AF'|ADD HL,BC|LD A,(BC)|DEC BC|INC C|DEC C|LD C,n|RRCA
DJNZ e|LD DE,nn|LD (DE),A|INC DE|INC D|DEC D|LD D,n|RLA|JR e|ADD HL,DE|LD A,(DE)|DEC DE|INC E|DEC E|LD E,n|RRA
JR NZ,e|LD HL,nn|LD (nn),HL|INC HL|INC H|DEC H|LD H,n|DAA|JR Z,e|ADD HL,HL|LD HL,(nn)|DEC HL|INC L|DEC L|LD L,n|CPL
JR NC,e|LD SP,nn|LD (nn),A|INC SP|INC (HL)|DEC (HL)|LD (HL),n|SCF|JR C,e|ADD HL,SP|LD A,(nn)|DEC SP|INC A|DEC A|LD A,n|CCF
LD B,B|LD B,C|LD B,D|LD B,E|LD B,H|LD B,L|LD B,(HL)|LD B,A|LD C,B|LD C,C|LD C,D|LD C,E|LD C,H|LD C,L|LD C,(HL)|LD C,A
LD D,B|LD D,C|LD D,D|LD D,E|LD D,H|LD D,L|LD D,(HL)|LD D,A|LD E,B|LD E,C|LD E,D|LD E,E|LD E,H|LD E,L|LD E,(HL)|LD E,A
LD H,B|LD H,C|LD H,D|LD H,E|LD H,H|LD H,L|LD H,(HL)|LD H,A|LD L,B|LD L,C|LD L,D|LD L,E|LD L,H|LD L,L|LD L,(HL)|LD L,A
LD (HL),B|LD (HL),C|LD (HL),D|LD (HL),E|LD (HL),H|LD (HL),L|HALT|LD (HL),A|LD A,B|LD A,C|LD A,D|LD A,E|LD A,H|LD A,L|LD A,(HL)|LD A,A
ADD A,B|ADD A,C|ADD A,D|ADD A,E|ADD A,H|ADD A,L|ADD A,(HL)|ADD A,A|ADC A,B|ADC A,C|ADC A,D|ADC A,E|ADC A,H|ADC A,L|ADC A,(HL)|ADC A,A
SUB B|SUB C|SUB D|SUB E|SUB H|SUB L|SUB (HL)|SUB A|SBC A,B|SBC A,C|SBC A,D|SBC A,E|SBC A,H|SBC A,L|SBC A,(HL)|SBC A,A
AND B|AND C|AND D|AND E|AND H|AND L|AND (HL)|AND A|XOR B|XOR C|XOR D|XOR E|XOR H|XOR L|XOR (HL)|XOR A
OR B|OR C|OR D|OR E|OR H|OR L|OR (HL)|OR A|CP B|CP C|CP D|CP E|CP H|CP L|CP (HL)|CP A
RET NZ|POP BC|JP NZ,nn|JP nn|CALL NZ,nn|PUSH BC|ADD A,n|RST 0|RET Z|RET|JP Z,nn|CB|CALL Z,nn|CALL nn|ADC A,n|RST 8
RET NC|POP DE|JP NC,nn|OUT (n),A|CALL NC,nn|PUSH DE|SUB n|RST 16|RET C|EXX|JP C,nn|IN A,(n)|CALL C,nn|DD|SBC A,n|RST 24
RET PO|POP HL|JP PO,nn|EX (SP),HL|CALL PO,nn|PUSH HL|AND n|RST 32|RET PE|JP (HL)|JP PE,nn|EX DE,HL|CALL PE,nn|ED|XOR n|RST 40
RET P|POP AF|JP P,nn|DI|CALL P,nn|PUSH AF|OR n|RST 48|RET M|LD SP,HL|JP M,nn|EI|CALL M,nn|FD|CP n|RST 56`

// The rows of the page DD.
const indexRows = `NOP|LD BC,nn|LD (BC),A|INC BC|INC B|DEC B|LD B,n|RLCA|EX AF,AF'|ADD IX,BC|LD A,(BC)|DEC BC|INC C|DEC C|LD C,n|RRCA
DJNZ e|LD DE,nn|LD (DE),A|INC DE|INC D|DEC D|LD D,n|RLA|JR e|ADD IX,DE|LD A,(DE)|DEC DE|INC E|DEC E|LD E,n|RRA
JR NZ,e|LD IX,nn|LD (nn),IX|INC IX|INC IXH|DEC IXH|LD IXH,n|DAA|JR Z,e|ADD IX,IX|LD IX,(nn)|DEC IX|INC IXL|DEC IXL|LD IXL,n|CPL
JR NC,e|LD SP,nn|LD (nn),A|INC SP|INC (IX+d)|DEC (IX+d)|LD (IX+d),n|SCF|JR C,e|ADD IX,SP|LD A,(nn)|DEC SP|INC A|DEC A|LD A,n|CCF
LD B,B|LD B,C|LD B,D|LD B,E|LD B,IXH|LD B,IXL|LD B,(IX+d)|LD B,A|LD C,B|LD C,C|LD C,D|LD C,E|LD C,IXH|LD C,IXL|LD C,(IX+d)|LD C,A
LD D,B|LD D,C|LD D,D|LD D,E|LD D,IXH|LD D,IXL|LD D,(IX+d)|LD D,A|LD E,B|LD E,C|LD E,D|LD E,E|LD E,IXH|LD E,IXL|LD E,(IX+d)|LD E,A
LD IXH,B|LD IXH,C|LD IXH,D|LD IXH,E|LD IXH,IXH|LD IXH,IXL|LD H,(IX+d)|LD IXH,A|LD IXL,B|LD IXL,C|LD IXL,D|LD IXL,E|LD IXL,IXH|LD IXL,IXL|LD L,(IX+d)|LD IXL,A
LD (IX+d),B|LD (IX+d),C|LD (IX+d),D|LD (IX+d),E|LD (IX+d),H|LD (IX+d),L|HALT|LD (IX+d),A|LD A,B|LD A,C|LD A,D|LD A,E|LD A,IXH|LD A,IXL|LD A,(IX+d)|LD A,A
ADD A,B|ADD A,C|ADD A,D|ADD A,E|ADD A,IXH|ADD A,IXL|ADD A,(IX+d)|ADD A,A|ADC A,B|ADC A,C|ADC A,D|ADC A,E|ADC A,IXH|ADC A,IXL|ADC A,(IX+d)|ADC A,A
SUB B|SUB C|SUB D|SUB E|SUB IXH|SUB IXL|SUB (IX+d)|SUB A|SBC A,B|SBC A,C|SBC A,D|SBC A,E|SBC A,IXH|SBC A,IXL|SBC A,(IX+d)|SBC A,A
AND B|AND C|AND D|AND E|AND IXH|AND IXL|AND (IX+d)|AND A|XOR B|XOR C|XOR D|XOR E|XOR IXH|XOR IXL|XOR (IX+d)|XOR A
OR B|OR C|OR D|OR E|OR IXH|OR IXL|OR (IX+d)|OR A|CP B|CP C|CP D|CP E|CP IXH|CP IXL|CP (IX+d)|CP A
RET NZ|POP BC|JP NZ,nn|JP nn|CALL NZ,nn|PUSH BC|ADD A,n|RST 0|RET Z|RET|JP Z,nn|CB|CALL Z,nn|CALL nn|ADC A,n|RST 8
RET NC|POP DE|JP NC,nn|OUT (n),A|CALL NC,nn|PUSH DE|SUB n|RST 16|RET C|EXX|JP C,nn|IN A,(n)|CALL C,nn|DD|SBC A,n|RST 24
RET PO|POP IX|JP PO,nn|EX (SP),IX|CALL PO,nn|PUSH IX|AND n|RST 32|RET PE|JP (IX)|JP PE,nn|EX DE,HL|CALL PE,nn|ED|XOR n|RST 40
RET P|POP AF|JP P,nn|DI|CALL P,nn|PUSH AF|OR n|RST 48|RET M|LD SP,IX|JP M,nn|EI|CALL M,nn|FD|CP n|RST 56`

// The rows of the page ED from 64 to 127, and those from 160 to 191; in the others there is nothing but NOPs.
const (
	rareRows = `IN B,(C)|OUT (C),B|SBC HL,BC|LD (nn),BC|NEG|RETN|IM 0|LD I,A|IN C,(C)|OUT (C),C|ADC HL,BC|LD BC,(nn)|NEG|RETI|IM 0|LD R,A
IN D,(C)|OUT (C),D|SBC HL,DE|LD (nn),DE|NEG|RETN|IM 1|LD A,I|IN E,(C)|OUT (C),E|ADC HL,DE|LD DE,(nn)|NEG|RETN|IM 2|LD A,R
IN H,(C)|OUT (C),H|SBC HL,HL|LD (nn),HL|NEG|RETN|IM 0|RRD|IN L,(C)|OUT (C),L|ADC HL,HL|LD HL,(nn)|NEG|RETN|IM 0|RLD
IN (C)|OUT (C),0|SBC HL,SP|LD (nn),SP|NEG|RETN|IM 1|NOP|IN A,(C)|OUT (C),A|ADC HL,SP|LD SP,(nn)|NEG|RETN|IM 2|NOP`
	manyRows = `LDI|CPI|INI|OUTI|NOP|NOP|NOP|NOP|LDD|CPD|IND|OUTD|NOP|NOP|NOP|NOP
LDIR|CPIR|INIR|OTIR|NOP|NOP|NOP|NOP|LDDR|CPDR|INDR|OTDR|NOP|NOP|NOP|NOP`
)

// each tells the patterns of rows, one by one.
func each(t *testing.T, rows string, many int) []string {
	t.Helper()
	out := strings.Split(strings.ReplaceAll(rows, "\n", "|"), "|")
	if len(out) != many {
		t.Fatalf("there are %d patterns in these rows, not %d", len(out), many)
	}
	return out
}

// rarePatterns are those of the page ED.
func rarePatterns(t *testing.T) []string {
	t.Helper()
	out := make([]string, 256)
	for op := range out {
		out[op] = "NOP"
	}
	copy(out[64:], each(t, rareRows, 64))
	copy(out[160:], each(t, manyRows, 32))
	return out
}

// bitPatterns are those of the page CB, or of a page whose bits are at a place in memory.
func bitPatterns(place string) []string {
	var out []string
	for _, turn := range []string{"RLC", "RRC", "RL", "RR", "SLA", "SRA", "SLL", "SRL"} {
		out = append(out, eightOf(turn+" ", place, true)...)
	}
	for _, act := range []string{"BIT", "RES", "SET"} {
		for n := range 8 {
			out = append(out, eightOf(fmt.Sprintf("%s %d,", act, n), place, act != "BIT")...)
		}
	}
	return out
}

// eightOf tells what is done to the eight registers, or to a place, if there is one, and goes from there to a register, if it is kept.
func eightOf(act, place string, kept bool) []string {
	var out []string
	for n, register := range theRegisters {
		switch {
		case place == "":
			out = append(out, act+register)
		case kept && n != 6:
			out = append(out, act+place+","+register)
		default:
			out = append(out, act+place)
		}
	}
	return out
}

// allPatterns are those of the seven pages, by their numbers.
func allPatterns(t *testing.T) [7][]string {
	t.Helper()
	index := each(t, indexRows, 256)
	other := each(t, strings.ReplaceAll(indexRows, "IX", "IY"), 256)
	return [7][]string{
		each(t, plainRows, 256), bitPatterns(""), rarePatterns(t),
		index, other, bitPatterns("(IX+d)"), bitPatterns("(IY+d)"),
	}
}

// samePatterns asks for each byte of a page.
func samePatterns(t *testing.T, page int, want []string) {
	t.Helper()
	if len(want) != 256 {
		t.Fatalf("%d patterns of the page %s", len(want), thePages[page])
	}
	for op, pattern := range want {
		if got := names.Pattern(page, byte(op)); got != pattern {
			t.Errorf("%s %02X is %q, not %q", thePages[page], op, got, pattern)
		}
	}
}

func TestPagesHaveTheirNumbers(t *testing.T) {
	for want, page := range []int{api.Plain, api.CB, api.ED, api.DD, api.FD, api.DDCB, api.FDCB} {
		if page != want {
			t.Errorf("%s has the number %d, not %d", thePages[want], page, want)
		}
	}
}

// P11.1

func TestPatternsOfPlain(t *testing.T) { samePatterns(t, api.Plain, allPatterns(t)[api.Plain]) }

// P11.2

func TestPatternsOfCB(t *testing.T) { samePatterns(t, api.CB, allPatterns(t)[api.CB]) }

func TestPatternsOfED(t *testing.T) { samePatterns(t, api.ED, allPatterns(t)[api.ED]) }

func TestPatternsOfBitsByHand(t *testing.T) {
	for op, want := range map[byte]string{
		0: "RLC B", 15: "RRC A", 22: "RL (HL)", 28: "RR H", 37: "SLA L", 41: "SRA C", 50: "SLL D", 63: "SRL A",
		64: "BIT 0,B", 70: "BIT 0,(HL)", 127: "BIT 7,A", 128: "RES 0,B", 187: "RES 7,E", 192: "SET 0,B", 255: "SET 7,A",
	} {
		if got := names.Pattern(api.CB, op); got != want {
			t.Errorf("CB %02X is %q, not %q", op, got, want)
		}
	}
}

// P11.3

func TestPatternsBehindIX(t *testing.T) { samePatterns(t, api.DD, allPatterns(t)[api.DD]) }

func TestPatternsBehindIY(t *testing.T) { samePatterns(t, api.FD, allPatterns(t)[api.FD]) }

func TestPatternsOfBitsBehindIX(t *testing.T) { samePatterns(t, api.DDCB, allPatterns(t)[api.DDCB]) }

func TestPatternsOfBitsBehindIY(t *testing.T) { samePatterns(t, api.FDCB, allPatterns(t)[api.FDCB]) }

func TestPatternsOfBitsInMemoryByHand(t *testing.T) {
	for op, want := range map[byte]string{
		0: "RLC (IX+d),B", 4: "RLC (IX+d),H", 5: "RLC (IX+d),L", 6: "RLC (IX+d)", 63: "SRL (IX+d),A",
		64: "BIT 0,(IX+d)", 70: "BIT 0,(IX+d)", 127: "BIT 7,(IX+d)",
		128: "RES 0,(IX+d),B", 134: "RES 0,(IX+d)", 253: "SET 7,(IX+d),L", 254: "SET 7,(IX+d)",
	} {
		if got := names.Pattern(api.DDCB, op); got != want {
			t.Errorf("DDCB %02X is %q, not %q", op, got, want)
		}
		want = strings.ReplaceAll(want, "IX", "IY")
		if got := names.Pattern(api.FDCB, op); got != want {
			t.Errorf("FDCB %02X is %q, not %q", op, got, want)
		}
	}
}

func TestPatternsOfOtherPages(t *testing.T) {
	pages := []int{-1, -2, -7, -8, -256, 7, 8, 9, 256, 258, 1 << 32, 1<<32 + 3, -(1 << 32), math.MinInt, math.MinInt + 1, math.MaxInt - 6, math.MaxInt}
	for page := 10; page < 300; page++ {
		pages = append(pages, page, -page)
	}
	for _, page := range pages {
		for op := range 256 {
			if got := names.Pattern(page, byte(op)); got != "" {
				t.Fatalf("there is no page %d, and its %02X is %q", page, op, got)
			}
		}
	}
}

// P11.4

// asked is a Name that is asked for, and what comes of it.
type asked struct {
	b    []byte
	name string
	long int
}

// sameNames asks for each of them.
func sameNames(t *testing.T, all []asked) {
	t.Helper()
	for _, q := range all {
		if name, long := names.Name(q.b); name != q.name || long != q.long {
			t.Errorf("% X is %q of %d, not %q of %d", q.b, name, long, q.name, q.long)
		}
	}
}

func TestTheExample(t *testing.T) { sameNames(t, []asked{{[]byte{33, 52, 18}, "LD HL,$1234", 3}}) }

func TestNamesWithoutMore(t *testing.T) {
	sameNames(t, []asked{
		{[]byte{0}, "NOP", 1}, {[]byte{0x76}, "HALT", 1}, {[]byte{0x08}, "EX AF,AF'", 1}, {[]byte{0xFF}, "RST 56", 1},
		{[]byte{0xCB, 0x00}, "RLC B", 2}, {[]byte{0xCB, 0xFF}, "SET 7,A", 2}, {[]byte{0xCB, 0xCB}, "SET 1,E", 2},
		{[]byte{0xCB, 0xDD}, "SET 3,L", 2}, {[]byte{0xED, 0xB0}, "LDIR", 2}, {[]byte{0xED, 0xED}, "NOP", 2},
		{[]byte{0xED, 0xDD}, "NOP", 2}, {[]byte{0xED, 0xCB}, "NOP", 2}, {[]byte{0xED, 0x6A}, "ADC HL,HL", 2},
		{[]byte{0xDD, 0x00}, "NOP", 2}, {[]byte{0xDD, 0x76}, "HALT", 2}, {[]byte{0xFD, 0xE9}, "JP (IY)", 2},
		{[]byte{0xFD, 0xEB}, "EX DE,HL", 2}, {[]byte{0xDD, 0x6C}, "LD IXL,IXH", 2},
	})
}

func TestNamesWithAByte(t *testing.T) {
	sameNames(t, []asked{
		{[]byte{0x3E, 0}, "LD A,$00", 2}, {[]byte{0x3E, 9}, "LD A,$09", 2}, {[]byte{0x3E, 10}, "LD A,$0A", 2},
		{[]byte{0x3E, 127}, "LD A,$7F", 2}, {[]byte{0x3E, 128}, "LD A,$80", 2}, {[]byte{0x3E, 255}, "LD A,$FF", 2},
		{[]byte{0x36, 0xA5}, "LD (HL),$A5", 2}, {[]byte{0xD6, 0x5A}, "SUB $5A", 2}, {[]byte{0xC6, 1}, "ADD A,$01", 2},
		{[]byte{0xDB, 0xDC}, "IN A,($DC)", 2}, {[]byte{0xDD, 0x26, 0xEE}, "LD IXH,$EE", 3}, {[]byte{0xFD, 0x2E, 0xBC}, "LD IYL,$BC", 3},
		{[]byte{0xDD, 0xD3, 0xBE}, "OUT ($BE),A", 3},
	})
}

func TestNamesWithTwoBytes(t *testing.T) {
	sameNames(t, []asked{
		{[]byte{0xC3, 0, 0}, "JP $0000", 3}, {[]byte{0xC3, 1, 0}, "JP $0001", 3}, {[]byte{0xC3, 0, 1}, "JP $0100", 3},
		{[]byte{0xC3, 255, 255}, "JP $FFFF", 3}, {[]byte{0x22, 0xCD, 0xAB}, "LD ($ABCD),HL", 3}, {[]byte{0xF4, 0x80, 0x7F}, "CALL P,$7F80", 3},
		{[]byte{0xDD, 0x22, 0xCD, 0xAB}, "LD ($ABCD),IX", 4}, {[]byte{0xFD, 0x2A, 0x01, 0xC0}, "LD IY,($C001)", 4},
		{[]byte{0xFD, 0xC2, 0x34, 0x12}, "JP NZ,$1234", 4}, {[]byte{0xED, 0x7B, 0x00, 0xC0}, "LD SP,($C000)", 4},
	})
}

func TestNamesWithASign(t *testing.T) {
	sameNames(t, []asked{
		{[]byte{0x18, 0}, "JR +0", 2}, {[]byte{0x18, 5}, "JR +5", 2}, {[]byte{0x18, 127}, "JR +127", 2},
		{[]byte{0x18, 128}, "JR -128", 2}, {[]byte{0x18, 255}, "JR -1", 2}, {[]byte{0x10, 246}, "DJNZ -10", 2},
		{[]byte{0x38, 100}, "JR C,+100", 2}, {[]byte{0xDD, 0x20, 0xFE}, "JR NZ,-2", 3},
		{[]byte{0xDD, 0x7E, 0}, "LD A,(IX+0)", 3}, {[]byte{0xDD, 0x7E, 127}, "LD A,(IX+127)", 3},
		{[]byte{0xDD, 0x74, 128}, "LD (IX-128),H", 3}, {[]byte{0xFD, 0x75, 255}, "LD (IY-1),L", 3},
		{[]byte{0xFD, 0x34, 7}, "INC (IY+7)", 3}, {[]byte{0xDD, 0x96, 200}, "SUB (IX-56)", 3},
	})
}

func TestNamesWithASignAndAByte(t *testing.T) {
	sameNames(t, []asked{
		{[]byte{0xDD, 0x36, 5, 0x80}, "LD (IX+5),$80", 4}, {[]byte{0xFD, 0x36, 0x80, 5}, "LD (IY-128),$05", 4},
		{[]byte{0xDD, 0x36, 255, 0}, "LD (IX-1),$00", 4}, {[]byte{0xDD, 0x36, 0, 255}, "LD (IX+0),$FF", 4},
	})
}

func TestNamesOfBitsInMemory(t *testing.T) {
	sameNames(t, []asked{
		{[]byte{0xDD, 0xCB, 5, 0x06}, "RLC (IX+5)", 4}, {[]byte{0xDD, 0xCB, 0xFF, 0x00}, "RLC (IX-1),B", 4},
		{[]byte{0xFD, 0xCB, 0x80, 0xC4}, "SET 0,(IY-128),H", 4}, {[]byte{0xFD, 0xCB, 0, 0x7E}, "BIT 7,(IY+0)", 4},
		{[]byte{0xDD, 0xCB, 0x7F, 0x85}, "RES 0,(IX+127),L", 4}, {[]byte{0xDD, 0xCB, 0xDD, 0xDD}, "SET 3,(IX-35),L", 4},
	})
}

func TestPrefixesThatStandAlone(t *testing.T) {
	for first, name := range map[byte]string{0xDD: "DD", 0xFD: "FD"} {
		for _, second := range []byte{0xDD, 0xED, 0xFD} {
			sameNames(t, []asked{
				{[]byte{first, second}, name, 1}, {[]byte{first, second, 0x36, 1, 2}, name, 1}, {[]byte{first, second, 0xCB, 5, 6}, name, 1},
			})
		}
	}
}

func TestBytesThatEndAhead(t *testing.T) {
	sameNames(t, []asked{
		{nil, "NOP", 1}, {[]byte{}, "NOP", 1}, {[]byte{0xCB}, "RLC B", 2}, {[]byte{0xED}, "NOP", 2},
		{[]byte{0xDD}, "NOP", 2}, {[]byte{0xFD}, "NOP", 2}, {[]byte{0x21}, "LD HL,$0000", 3}, {[]byte{0x21, 0x12}, "LD HL,$0012", 3},
		{[]byte{0x3E}, "LD A,$00", 2}, {[]byte{0x18}, "JR +0", 2}, {[]byte{0xDD, 0x36}, "LD (IX+0),$00", 4},
		{[]byte{0xDD, 0x36, 0x85}, "LD (IX-123),$00", 4}, {[]byte{0xFD, 0x7E}, "LD A,(IY+0)", 3},
		{[]byte{0xDD, 0xCB}, "RLC (IX+0),B", 4}, {[]byte{0xFD, 0xCB, 0xFF}, "RLC (IY-1),B", 4},
		{[]byte{0xED, 0x4B}, "LD BC,($0000)", 4}, {[]byte{0xED, 0x4B, 0xFF}, "LD BC,($00FF)", 4},
	})
}

// pageOf tells the page of an instruction's op, and the bytes ahead of what stands behind the op, as the chapter tells them.
func pageOf(b [6]byte) (page int, op byte, ahead int) {
	first, second := b[0], b[1]
	index := map[byte]int{0xDD: api.DD, 0xFD: api.FD}[first]
	switch {
	case first == 0xCB:
		return api.CB, second, 2
	case first == 0xED:
		return api.ED, second, 2
	case index == 0:
		return api.Plain, first, 1
	case second == 0xDD || second == 0xED || second == 0xFD:
		return api.Plain, first, 1
	case second == 0xCB:
		return index + 2, b[3], 4
	}
	return index, second, 2
}

// nameOf tells what Name answers, with the patterns of the rows above.
func nameOf(patterns *[7][]string, b [6]byte) (string, int) {
	page, op, long := pageOf(b)
	pattern := patterns[page][op]
	d := b[long]
	if page == api.DDCB || page == api.FDCB {
		d = b[2]
	} else if strings.Contains(pattern, "+d") {
		long++
	}
	pattern = strings.ReplaceAll(pattern, "+d", fmt.Sprintf("%+d", int8(d)))
	switch {
	case strings.Contains(pattern, "nn"):
		return strings.ReplaceAll(pattern, "nn", fmt.Sprintf("$%04X", 256*int(b[long+1])+int(b[long]))), long + 2
	case strings.Contains(pattern, "n"):
		return strings.ReplaceAll(pattern, "n", fmt.Sprintf("$%02X", b[long])), long + 1
	case strings.Contains(pattern, "e"):
		return strings.ReplaceAll(pattern, "e", fmt.Sprintf("%+d", int8(b[long]))), long + 1
	}
	return pattern, long
}

// sameName holds Name of so many of the bytes against the rows.
func sameName(t *testing.T, patterns *[7][]string, all [6]byte, many int) {
	t.Helper()
	var b [6]byte
	copy(b[:], all[:many])
	name, long := nameOf(patterns, b)
	if got, n := names.Name(all[:many:many]); got != name || n != long {
		t.Fatalf("% X is %q of %d, not %q of %d", all[:many], got, n, name, long)
	}
}

// edges are bytes with a sign and without, and the prefixes.
var edges = []byte{0, 1, 127, 128, 255, 0xCB, 0xDD, 0xED, 0xFD}

func TestNamesOfAnyTwoBytes(t *testing.T) {
	patterns := allPatterns(t)
	for two := range 65536 {
		for _, third := range edges {
			for _, fourth := range edges {
				sameName(t, &patterns, [6]byte{byte(two / 256), byte(two), third, fourth, 99, 199}, 6)
			}
		}
	}
}

func TestNamesOfBytesOfAnyLength(t *testing.T) {
	patterns := allPatterns(t)
	for two := range 65536 {
		for many := range 7 {
			sameName(t, &patterns, [6]byte{byte(two / 256), byte(two), 0x9A, 0xBC, 0xDE, 0xF1}, many)
		}
	}
}

func TestNamesOfBitsInMemoryWithAnyByte(t *testing.T) {
	patterns := allPatterns(t)
	for two := range 65536 {
		for _, first := range []byte{0xDD, 0xFD} {
			sameName(t, &patterns, [6]byte{first, 0xCB, byte(two / 256), byte(two), 255, 255}, 6)
			sameName(t, &patterns, [6]byte{first, 0xCB, byte(two / 256), byte(two)}, 4)
		}
	}
}

func TestNamesWithAnyNumber(t *testing.T) {
	patterns := allPatterns(t)
	for _, start := range [][]byte{{0xC3}, {0xCD}, {0x32}, {0x06}, {0x18}, {0xED, 0x43}, {0xDD, 0x21}, {0xFD, 0x36}, {0xDD, 0x36}, {0xFD, 0xBE}} {
		for two := range 65536 {
			var b [6]byte
			behind := copy(b[:], start)
			b[behind], b[behind+1] = byte(two), byte(two/256)
			sameName(t, &patterns, b, 6)
		}
	}
}

func TestNameOfManyBytes(t *testing.T) {
	sameNames(t, []asked{
		{bytes.Repeat([]byte{0xDD}, 1000), "DD", 1}, {bytes.Repeat([]byte{0xED}, 1000), "NOP", 2},
		{bytes.Repeat([]byte{0xCB}, 1000), "SET 1,E", 2}, {bytes.Repeat([]byte{0xFF}, 100000), "RST 56", 1},
		{append([]byte{0xFD, 0x36, 1, 2}, bytes.Repeat([]byte{0x55}, 1000)...), "LD (IY+1),$02", 4},
	})
}

// Rules: what is handed in is not changed, spare room included, and what isn't among the bytes isn't asked.

func TestWhatIsHandedInStays(t *testing.T) {
	for two := range 65536 {
		room := [6]byte{byte(two / 256), byte(two), 0x81, 0x42, 0x24, 0x18}
		for many := range 5 {
			was := room
			name, long := names.Name(room[:many])
			if room != was {
				t.Fatalf("% X became % X", was, room)
			}
			if other, n := names.Name(was[:many:many]); other != name || n != long {
				t.Fatalf("% X with spare room is %q of %d, without it %q of %d", was[:many], name, long, other, n)
			}
		}
	}
}

// P2

func TestAskedAgainTheSameAnswer(t *testing.T) {
	type answer struct {
		pattern, name string
		long          int
	}
	ask := func(n int) answer {
		op := byte(n / 11)
		b := []byte{byte(n * 7), op, byte(n * 13), byte(n * 5)}
		name, long := names.Name(b)
		a := answer{names.Pattern(n%11-2, op), name, long}
		// What was handed in may be written over.
		clear(b)
		return a
	}
	const many = 11 * 256
	var first [many]answer
	for n := range many {
		first[n] = ask(n)
	}
	// The other way round, so that other calls were before.
	for n := many - 1; n >= 0; n-- {
		if got := ask(n); got != first[n] {
			t.Fatalf("%d: asked again, another answer: %v, not %v", n, got, first[n])
		}
	}
}
