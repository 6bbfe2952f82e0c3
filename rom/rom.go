// Package rom is layer 1: see shared/doc/01-rom.md.
package rom

import (
	"sync"

	"joystick/api"
)

// Where Sum begins, and what it multiplies by at each byte.
const (
	sumStart  uint32 = 2166136261
	sumFactor uint32 = 16777619
)

// Rom is what a cartridge has.
type Rom struct {
	bytes []byte // whole banks, as many as a power of two
	once  sync.Once
	sum   uint32 // only once has run
}

// New: of any bytes.
func New(b []byte) *Rom {
	b = b[:min(len(b), api.MaxBanks*api.BankSize)]
	r := &Rom{bytes: make([]byte, banksFor(len(b))*api.BankSize)}
	copy(r.bytes, b)
	return r
}

// banksFor tells the least power of two banks that have room for so many bytes.
func banksFor(size int) int {
	banks := 1
	for banks*api.BankSize < size {
		banks *= 2
	}
	return banks
}

// Banks: how many.
func (r *Rom) Banks() int { return len(r.bytes) / api.BankSize }

// At: a byte of a bank.
func (r *Rom) At(bank, offset int) byte {
	// Both sizes are powers of two: a mask is the modulo, below 0 too.
	bank &= r.Banks() - 1
	offset &= api.BankSize - 1
	return r.bytes[bank*api.BankSize+offset]
}

// Bytes: all of them.
func (r *Rom) Bytes() []byte {
	out := make([]byte, len(r.bytes))
	copy(out, r.bytes)
	return out
}

// Sum: a number that tells it from others.
func (r *Rom) Sum() uint32 {
	// A cartridge never changes, and may have millions of bytes.
	r.once.Do(func() { r.sum = sumOf(r.bytes) })
	return r.sum
}

func sumOf(b []byte) uint32 {
	sum := sumStart
	for _, v := range b {
		sum = (sum ^ uint32(v)) * sumFactor
	}
	return sum
}
