package cpu

import (
	"joystick/api"
	"joystick/pairs"
	"joystick/turns"
)

// The x of what is done to bits; what is beyond them clears one.
const (
	turnBits = 0
	askBit   = 1
	setBit   = 3
)

// onBits does an instruction of the page CB, or, with a prefix ahead, of DDCB or FDCB.
func (c *core) onBits() int {
	if c.ahead != 0 {
		// Here d is ahead of the op, and neither counts as a fetch.
		a := c.pointed()
		return c.onBitsAt(split(c.next()), a, 19)
	}
	o := split(c.fetch())
	if o.z == memory {
		return c.onBitsAt(o, c.pair(api.HL), 15)
	}
	v := c.one(o.z)
	if o.x == askBit {
		c.F = turns.Bit(o.y, v, c.F, v)
	} else {
		c.setOne(o.z, c.changed(o, v))
	}
	return 8
}

// onBitsAt does it in memory; of the clocks it takes three less, if nothing is written.
func (c *core) onBitsAt(o parts, a uint16, clocks int) int {
	v := c.world.Read(a)
	if o.x == askBit {
		from, _ := pairs.Split(c.WZ)
		c.F = turns.Bit(o.y, v, c.F, from)
		return clocks - 3
	}
	v = c.changed(o, v)
	c.world.Write(a, v)
	// Behind a prefix a register has it, too; without one it is memory's number, which is none.
	c.setOwn(o.z, v)
	return clocks
}

// changed tells what comes of a byte, but of BIT.
func (c *core) changed(o parts, v byte) byte {
	if o.x == turnBits {
		v, c.F = turns.Rot(o.y, v, c.F)
		return v
	}
	return turns.Put(o.y, v, o.x == setBit)
}
