package cpu

import (
	"joystick/api"
	"joystick/pairs"
	"joystick/repeat"
	"joystick/sums"
	"joystick/turns"
)

// Steps over many bytes: from which y on and below which z they are, from which y on they go on, and from which z on they meet ports.
const (
	firstMany  = 4
	firstAgain = 6
	zPorts     = 2
	zMany      = 4
)

// How far a step over many bytes goes: on, or back.
const (
	onward   byte = 1
	backward byte = 255
)

// modeBits are the bits of IM's y that count.
const modeBits = 3

// modes are what IM sets, by them.
var modes = [modeBits + 1]byte{0, 0, 1, 2}

// rare does an instruction of the page ED; those that do nothing take eight clocks.
func (c *core) rare(o parts) int {
	switch {
	case o.x == 1:
		return c.rareOne(o)
	case o.x == 2 && o.y >= firstMany && o.z < zMany:
		return c.many(o)
	}
	return 8
}

// rareOne does those of x 1.
func (c *core) rareOne(o parts) int {
	switch o.z {
	case 0:
		return c.inOne(o.y)
	case 1:
		return c.outOne(o.y)
	case 2:
		return c.carryPair(o)
	case 3:
		c.movePair(o.q, o.p)
		return 20
	case 4:
		c.A, c.F = sums.Sub(0, c.A, false)
		return 8
	case 5:
		c.comeBack()
		c.IFF1 = c.IFF2
		return 14
	case 6:
		c.IM = modes[o.y&modeBits]
		return 8
	}
	return c.odd(o.y)
}

// inOne brings a register in from the port BC; without one, as memory's number is none, the flags alone.
func (c *core) inOne(n int) int {
	port := c.pair(api.BC)
	v := c.world.In(port, 9)
	c.shapeWith(v, sums.Parity(v))
	c.WZ = port + 1
	c.setOne(n, v)
	return 12
}

// outOne sends a register out of the port BC; 0, where it is memory's number.
func (c *core) outOne(n int) int {
	port := c.pair(api.BC)
	c.world.Out(port, c.one(n), 9)
	c.WZ = port + 1
	return 12
}

// shapeWith tells the flags of a byte that came, FlagP by another's word.
func (c *core) shapeWith(v byte, p bool) {
	c.F = sums.Shape(v) | when(p, api.FlagP) | c.F&api.FlagC
}

// carryPair does ADC and SBC of two bytes.
func (c *core) carryPair(o parts) int {
	sum := pairs.Sbc
	if o.q != 0 {
		sum = pairs.Adc
	}
	was := c.pair(api.HL)
	v, f := sum(was, c.pair(o.p), c.F)
	c.setPair(api.HL, v)
	c.F = f
	c.WZ = was + 1
	return 15
}

// odd does those of x 1 and z 7.
func (c *core) odd(y int) int {
	switch y {
	case 0:
		c.I = c.A
	case 1:
		c.R = c.A
	case 2:
		c.bring(c.I)
	case 3:
		c.bring(c.R)
	case 4, 5:
		return c.digits(y == 5)
	default:
		return 8
	}
	return 9
}

// bring does LD of A from I or R, which also tells whether interrupts were on.
func (c *core) bring(v byte) {
	c.A = v
	c.shapeWith(v, c.IFF2)
}

// digits does RRD and RLD.
func (c *core) digits(left bool) int {
	a := c.pair(api.HL)
	v, m, f := turns.Digits(left, c.A, c.world.Read(a), c.F)
	c.world.Write(a, m)
	c.A, c.F = v, f
	c.WZ = a + 1
	return 18
}

// many does a step over many bytes; if it goes on, it is the next instruction again.
func (c *core) many(o parts) int {
	by := onward
	if o.q != 0 {
		by = backward
	}
	if on := c.manyOne(o.z, by); o.y < firstAgain || !on {
		return 16
	}
	c.PC -= 2
	if o.z < zPorts {
		c.WZ = c.PC + 1
	}
	return 21
}

// manyOne does one of four for a byte; does one go on?
func (c *core) manyOne(z int, by byte) bool {
	switch z {
	case 0:
		return c.manyLoad(by)
	case 1:
		return c.manySeek(by)
	case zPorts:
		return c.manyIn(by)
	}
	return c.manyOut(by)
}

// shift moves a pair.
func (c *core) shift(n int, by byte) { c.setPair(n, pairs.Move(c.pair(n), by)) }

// manyLoad brings a byte from where HL points to where DE does; does one go on?
func (c *core) manyLoad(by byte) bool {
	v := c.world.Read(c.pair(api.HL))
	c.world.Write(c.pair(api.DE), v)
	c.shift(api.HL, by)
	c.shift(api.DE, by)
	left := c.less()
	c.F = repeat.Load(c.A, v, c.F, left)
	return left != 0
}

// manySeek holds a byte against A; does one go on?
func (c *core) manySeek(by byte) bool {
	v := c.world.Read(c.pair(api.HL))
	c.shift(api.HL, by)
	c.WZ = pairs.Move(c.WZ, by)
	f, on := repeat.Seek(c.A, v, c.F, c.less())
	c.F = f
	return on
}

// less makes BC one less, and tells what is left.
func (c *core) less() uint16 {
	left := c.pair(api.BC) - 1
	c.setPair(api.BC, left)
	return left
}

// manyIn brings a byte in from a port; does one go on?
func (c *core) manyIn(by byte) bool {
	port := c.pair(api.BC)
	c.WZ = pairs.Move(port, by)
	v := c.world.In(port, 13)
	c.world.Write(c.pair(api.HL), v)
	c.B--
	c.shift(api.HL, by)
	c.F = repeat.Port(v, c.C+by, c.B)
	return c.B != 0
}

// manyOut sends a byte out of a port, whose number B is in as it is left; does one go on?
func (c *core) manyOut(by byte) bool {
	v := c.world.Read(c.pair(api.HL))
	c.B--
	port := c.pair(api.BC)
	c.world.Out(port, v, 13)
	c.shift(api.HL, by)
	c.WZ = pairs.Move(port, by)
	c.F = repeat.Port(v, c.L, c.B)
	return c.B != 0
}
