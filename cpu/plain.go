package cpu

import (
	"joystick/api"
	"joystick/pairs"
	"joystick/regs"
	"joystick/sums"
	"joystick/turns"
)

// Of x 0: the first y of z 0 whose jump hangs on a condition; of z 7 the y of DAA, behind those of layer 8's Quick, and the first one of layer 6's Flip.
const (
	firstIf   = 4
	mendY     = 4
	firstFlip = 5
)

// lastStacked is the p by which AF stands in SP's place, where pairs are pushed and popped.
const lastStacked = 3

// restartSize is how far the starts of RST are from one another.
const restartSize = 8

// plain does an instruction of the pages Plain, DD and FD.
func (c *core) plain(o parts) int {
	switch o.x {
	case 0:
		return c.plainFirst(o)
	case 1:
		return c.move(o)
	case 2:
		v, clocks := c.operand(o.z)
		c.sum(o.y, v)
		return clocks
	}
	return c.plainLast(o)
}

// plainFirst does those of x 0.
func (c *core) plainFirst(o parts) int {
	switch o.z {
	case 0:
		return c.starts(o.y)
	case 1:
		if o.q == 0 {
			c.setPair(o.p, c.nextNumber())
			return 10
		}
		return c.addPair(o.p)
	case 2:
		return c.moveFar(o)
	case 3:
		c.countPair(o)
		return 6
	case 4:
		return c.count(o.y, sums.Inc)
	case 5:
		return c.count(o.y, sums.Dec)
	case 6:
		return c.moveNext(o.y)
	}
	c.quick(o.y)
	return 4
}

// starts does those of x 0 and z 0.
func (c *core) starts(y int) int {
	switch y {
	case 0:
		return 4
	case 1:
		c.Regs = regs.Swap(c.Regs, false)
		return 4
	case 2:
		c.B--
		return c.hop(c.B != 0, 13)
	case 3:
		return c.hop(true, 12)
	}
	return c.hop(regs.Met(c.F, y-firstIf), 12)
}

// hop moves by the next byte, if it is met; of the clocks it takes five less, if not.
func (c *core) hop(met bool, clocks int) int {
	by := c.next()
	if !met {
		return clocks - 5
	}
	c.goTo(pairs.Move(c.PC, by))
	return clocks
}

// addPair adds a pair to the one that points.
func (c *core) addPair(n int) int {
	was := c.pair(api.HL)
	v, f := pairs.Add(was, c.pair(n), c.F)
	c.setPair(api.HL, v)
	c.F = f
	c.WZ = was + 1
	return 11
}

// countPair makes a pair one more, or one less.
func (c *core) countPair(o parts) {
	if o.q == 0 {
		c.setPair(o.p, c.pair(o.p)+1)
	} else {
		c.setPair(o.p, c.pair(o.p)-1)
	}
}

// count makes a byte one more, or one less, by a sum of layer 6.
func (c *core) count(n int, sum func(v, f byte) (byte, byte)) int {
	if n != memory {
		v, f := sum(c.one(n), c.F)
		c.setOne(n, v)
		c.F = f
		return 4
	}
	a := c.pointed()
	v, f := sum(c.world.Read(a), c.F)
	c.world.Write(a, v)
	c.F = f
	return c.either(11, 19)
}

// quick does those of x 0 and z 7, all of them with A.
func (c *core) quick(y int) {
	switch {
	case y < mendY:
		c.A, c.F = turns.Quick(y, c.A, c.F)
	case y == mendY:
		c.A, c.F = sums.Daa(c.A, c.F)
	default:
		c.A, c.F = sums.Flip(y-firstFlip, c.A, c.F)
	}
}

// sum does one of the eight sums with A.
func (c *core) sum(op int, v byte) { c.A, c.F = sums.Do(op, c.A, v, c.F) }

// move does LD of one byte between what r's letters stand for, or HALT.
func (c *core) move(o parts) int {
	switch {
	case o.y == memory && o.z == memory:
		c.Halted = true
		return 4
	case o.y == memory:
		// Where one is in memory, the prefix has been used up: H and L are themselves.
		c.world.Write(c.pointed(), c.own(o.z))
		return c.either(7, 15)
	case o.z == memory:
		c.setOwn(o.y, c.world.Read(c.pointed()))
		return c.either(7, 15)
	}
	c.setOne(o.y, c.one(o.z))
	return 4
}

// moveNext does LD of one byte from the next one.
func (c *core) moveNext(n int) int {
	if n != memory {
		c.setOne(n, c.next())
		return 7
	}
	a := c.pointed()
	c.world.Write(a, c.next())
	return c.either(10, 15)
}

// moveFar does LD from or to the addresses of x 0 and z 2.
func (c *core) moveFar(o parts) int {
	switch o.p {
	case api.BC, api.DE:
		c.moveA(o.q, c.pair(o.p))
		return 7
	case api.HL:
		c.movePair(o.q, o.p)
		return 16
	}
	c.moveA(o.q, c.nextNumber())
	return 13
}

// moveA does LD of A to an address, or, of another q than 0, from there.
func (c *core) moveA(q int, a uint16) {
	if q != 0 {
		c.A = c.world.Read(a)
		c.WZ = a + 1
		return
	}
	c.world.Write(a, c.A)
	_, low := pairs.Split(a + 1)
	c.WZ = pairs.Join(c.A, low)
}

// movePair does LD of a pair to the address that is the next number, or, of another q than 0, from there.
func (c *core) movePair(q, n int) {
	a := c.nextNumber()
	c.WZ = a + 1
	if q == 0 {
		c.setNumber(a, c.pair(n))
	} else {
		c.setPair(n, c.number(a))
	}
}

// plainLast does those of x 3.
func (c *core) plainLast(o parts) int {
	switch o.z {
	case 0:
		return c.comeBackIf(regs.Met(c.F, o.y))
	case 1:
		if o.q == 0 {
			c.setPair(stacked(o.p), c.pop())
			return 10
		}
		return c.lastOdd(o.p)
	case 2:
		return c.jump(regs.Met(c.F, o.y))
	case 3:
		return c.mixed(o.y)
	case 4:
		return c.call(regs.Met(c.F, o.y))
	case 5:
		if o.q == 0 {
			c.push(c.pair(stacked(o.p)))
			return 11
		}
		// The others of q 1 are prefixes, which don't come here.
		return c.call(true)
	case 6:
		c.sum(o.y, c.next())
		return 7
	}
	c.begin(uint16(o.y * restartSize))
	return 11
}

// stacked tells which pair is pushed and popped.
func stacked(p int) int {
	if p == lastStacked {
		return api.AF
	}
	return p
}

// comeBackIf does RET with a condition.
func (c *core) comeBackIf(met bool) int {
	if !met {
		return 5
	}
	c.comeBack()
	return 11
}

// lastOdd does those of x 3, z 1, and q 1.
func (c *core) lastOdd(p int) int {
	switch p {
	case 0:
		c.comeBack()
		return 10
	case 1:
		c.Regs = regs.Swap(c.Regs, true)
		return 4
	case 2:
		c.PC = c.pair(api.HL)
		return 4
	}
	c.SP = c.pair(api.HL)
	return 6
}

// jump does JP to the next number, if it is met.
func (c *core) jump(met bool) int {
	c.WZ = c.nextNumber()
	if met {
		c.PC = c.WZ
	}
	return 10
}

// call does CALL of the next number, if it is met.
func (c *core) call(met bool) int {
	c.WZ = c.nextNumber()
	if !met {
		return 10
	}
	c.begin(c.WZ)
	return 17
}

// mixed does those of x 3 and z 3, but the prefix, which doesn't come here.
func (c *core) mixed(y int) int {
	switch y {
	case 0:
		return c.jump(true)
	case 2:
		return c.outNext()
	case 3:
		return c.inNext()
	case 4:
		return c.swapTop()
	case 5:
		// HL itself, whatever the prefix.
		c.D, c.E, c.H, c.L = c.H, c.L, c.D, c.E
	case 6:
		c.IFF1, c.IFF2 = false, false
	default:
		c.IFF1, c.IFF2, c.Delay = true, true, true
	}
	return 4
}

// outNext sends A out of the port that A and the next byte tell.
func (c *core) outNext() int {
	low := c.next()
	c.world.Out(pairs.Join(c.A, low), c.A, 8)
	c.WZ = pairs.Join(c.A, low+1)
	return 11
}

// inNext brings A in from there.
func (c *core) inNext() int {
	port := pairs.Join(c.A, c.next())
	c.A = c.world.In(port, 8)
	c.WZ = port + 1
	return 11
}

// swapTop has the pair that points, and the number at the stack's top, change places.
func (c *core) swapTop() int {
	was := c.pair(api.HL)
	c.WZ = c.number(c.SP)
	c.setNumber(c.SP, was)
	c.setPair(api.HL, c.WZ)
	return 19
}
