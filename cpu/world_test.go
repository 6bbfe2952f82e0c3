package cpu_test

import (
	"strconv"
	"strings"

	"joystick/api"
)

// world is memory and ports that keep a log; what wasn't laid there hangs on the seed and the address alone.
type world struct {
	seed uint32
	laid map[uint16]byte
	log  []string
}

// newWorld tells a world in which code stands at an address, and goes on behind the memory's end at its beginning.
func newWorld(seed uint32, at uint16, code ...byte) *world {
	w := &world{seed: seed, laid: map[uint16]byte{}}
	w.lay(at, code...)
	return w
}

// lay puts bytes there; that isn't logged.
func (w *world) lay(at uint16, code ...byte) {
	for i, v := range code {
		w.laid[at+uint16(i)] = v
	}
}

// mixed tells a byte that hangs on a number and the seed.
func (w *world) mixed(n uint32) byte {
	n = (n + w.seed) * 2654435761
	n ^= n >> 15
	n *= 2246822519
	return byte(n >> 13)
}

// peek tells what is there; that isn't logged.
func (w *world) peek(a uint16) byte {
	if v, is := w.laid[a]; is {
		return v
	}
	return w.mixed(uint32(a))
}

func hex(v uint16) string {
	s := strings.ToUpper(strconv.FormatUint(uint64(v), 16))
	return strings.Repeat("0", 4-len(s)) + s
}

func hex2(v byte) string { return hex(uint16(v))[2:] }

func (w *world) Read(a uint16) byte {
	w.log = append(w.log, "R"+hex(a))
	return w.peek(a)
}

func (w *world) Write(a uint16, v byte) {
	w.log = append(w.log, "W"+hex(a)+"="+hex2(v))
	w.laid[a] = v
}

func (w *world) In(port uint16, at int) byte {
	w.log = append(w.log, "I"+hex(port)+"@"+strconv.Itoa(at))
	return w.inOf(port)
}

// inOf tells what comes in from a port; that isn't logged.
func (w *world) inOf(port uint16) byte { return w.mixed(uint32(port) + 1<<16) }

func (w *world) Out(port uint16, v byte, at int) {
	w.log = append(w.log, "O"+hex(port)+"="+hex2(v)+"@"+strconv.Itoa(at))
}

// told tells the log as a text.
func (w *world) told() string { return strings.Join(w.log, " ") }

// dice are numbers that come in the same order each time.
type dice uint64

func (d *dice) roll(n int) int {
	*d ^= *d << 13
	*d ^= *d >> 7
	*d ^= *d << 17
	return int(uint64(*d) >> 11 % uint64(n))
}

func (d *dice) coin() bool { return d.roll(2) == 0 }

// byte tells one, and an edge often.
func (d *dice) byte() byte {
	edges := [...]byte{0, 1, 2, 15, 16, 127, 128, 129, 254, 255}
	if d.coin() {
		return edges[d.roll(len(edges))]
	}
	return byte(d.roll(256))
}

// number tells one of two bytes, and an edge often.
func (d *dice) number() uint16 {
	edges := [...]uint16{0, 1, 2, 255, 256, 4095, 4096, 32767, 32768, 65533, 65534, 65535}
	if d.coin() {
		return edges[d.roll(len(edges))]
	}
	return uint16(d.roll(65536))
}

// regs tells RIGHT registers, which don't wait, without a prefix.
func (d *dice) regs() api.Regs {
	r := api.Regs{
		A: d.byte(), F: byte(d.roll(256)), B: d.byte(), C: d.byte(), D: d.byte(), E: d.byte(), H: d.byte(), L: d.byte(),
		IX: d.number(), IY: d.number(), SP: d.number(), PC: d.number(), WZ: d.number(),
		I: d.byte(), R: d.byte(), IM: byte(d.roll(3)),
		IFF1: d.coin(), IFF2: d.coin(), Delay: d.coin(),
	}
	for i := range r.Alt {
		r.Alt[i] = d.byte()
	}
	return r
}

// code tells bytes.
func (d *dice) code(n int) []byte {
	out := make([]byte, n)
	for i := range out {
		out[i] = d.byte()
	}
	return out
}
