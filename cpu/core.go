package cpu

import (
	"joystick/api"
	"joystick/pairs"
	"joystick/regs"
)

// core is a processor within a step. Of its methods those that do a whole instruction answer how many clocks the step takes.
type core struct {
	api.Regs
	world World
	ahead byte // the Prefix that stood ahead of the step, while it still says which pair points
}

// nowhere stands for a World that isn't there, so that a step ends there, too.
type nowhere struct{}

func (nowhere) Read(uint16) byte      { return 0 }
func (nowhere) Write(uint16, byte)    {}
func (nowhere) In(uint16, int) byte   { return 0 }
func (nowhere) Out(uint16, byte, int) {}

// awake tells the core of registers and a World.
func awake(r api.Regs, w World) core {
	if w == nil {
		w = nowhere{}
	}
	return core{Regs: r, world: w}
}

// memory is the number of r's letter that is no register.
const memory = 6

// parts are an op's pieces, as numbers.
type parts struct{ x, y, z, p, q int }

// split tells an op's parts.
func split(op byte) parts {
	y := int(op >> 3 & 7)
	return parts{x: int(op >> 6), y: y, z: int(op & 7), p: y >> 1, q: y & 1}
}

// when tells the number, if on; else 0.
func when(on bool, number byte) byte {
	if on {
		return number
	}
	return 0
}

// next tells the next byte of the instruction.
func (c *core) next() byte {
	v := c.world.Read(c.PC)
	c.PC++
	return v
}

// fetch tells the next byte, and counts it in R.
func (c *core) fetch() byte {
	v := c.next()
	c.tick()
	return v
}

// nextNumber tells the next two bytes.
func (c *core) nextNumber() uint16 {
	v := c.number(c.PC)
	c.PC += 2
	return v
}

// number reads a number in memory.
func (c *core) number(a uint16) uint16 {
	low := c.world.Read(a)
	return pairs.Join(c.world.Read(a+1), low)
}

// setNumber writes one.
func (c *core) setNumber(a, v uint16) {
	high, low := pairs.Split(v)
	c.world.Write(a, low)
	c.world.Write(a+1, high)
}

// push lays a number onto the stack: from above, so the higher byte is the first one.
func (c *core) push(v uint16) {
	high, low := pairs.Split(v)
	c.SP--
	c.world.Write(c.SP, high)
	c.SP--
	c.world.Write(c.SP, low)
}

// pop takes one from there.
func (c *core) pop() uint16 {
	v := c.number(c.SP)
	c.SP += 2
	return v
}

// one tells a register, H and L being those of the pair that points; 0 of memory.
func (c *core) one(n int) byte { return regs.One(c.Regs, n, c.ahead) }

// setOne sets it; of memory nothing.
func (c *core) setOne(n int, v byte) { c.Regs = regs.SetOne(c.Regs, n, c.ahead, v) }

// own tells a register, H and L being themselves whatever is ahead.
func (c *core) own(n int) byte { return regs.One(c.Regs, n, 0) }

// setOwn sets it; of memory nothing.
func (c *core) setOwn(n int, v byte) { c.Regs = regs.SetOne(c.Regs, n, 0, v) }

// standsFor tells which pair is meant by a pair's number, as HL is the one that points.
func (c *core) standsFor(n int) int {
	if n == api.HL {
		return regs.Index(c.ahead)
	}
	return n
}

// pair tells a pair.
func (c *core) pair(n int) uint16 { return regs.Pair(c.Regs, c.standsFor(n)) }

// setPair sets it.
func (c *core) setPair(n int, v uint16) { c.Regs = regs.SetPair(c.Regs, c.standsFor(n), v) }

// pointed tells where (HL) is, or (IX+d), whose d is the next byte.
func (c *core) pointed() uint16 {
	a := c.pair(api.HL)
	if c.ahead == 0 {
		return a
	}
	c.WZ = pairs.Move(a, c.next())
	return c.WZ
}

// either tells the clocks of (HL), or of (IX+d).
func (c *core) either(near, far int) int {
	if c.ahead == 0 {
		return near
	}
	return far
}

// operand tells what r's letter stands for, and the clocks of an instruction that does no more than use it.
func (c *core) operand(n int) (byte, int) {
	if n == memory {
		return c.world.Read(c.pointed()), c.either(7, 15)
	}
	return c.one(n), 4
}

// goTo goes on elsewhere, and WZ tells where.
func (c *core) goTo(a uint16) { c.PC, c.WZ = a, a }

// begin goes on elsewhere, so that one can come back.
func (c *core) begin(a uint16) {
	c.push(c.PC)
	c.goTo(a)
}

// comeBack goes on where begin was left.
func (c *core) comeBack() { c.goTo(c.pop()) }
