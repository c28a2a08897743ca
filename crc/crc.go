// Package crc makes sums of bytes: CRC-32C.
package crc

import (
	"sync"
	"sync/atomic"
)

// polynomial turns the register whenever a 1 was taken out of it.
const polynomial = 0x82f63b78

// halves has an entry for each half of a byte, not for each byte: so the table
// stays a short one.
var (
	halves [16]uint32
	once   sync.Once
	calls  atomic.Uint64
)

// Of is the sum of p.
func Of(p []byte) uint32 {
	calls.Add(1)
	return Sum(p)
}

// Sum is what Of answers of p, but isn't counted: so it hangs on p alone, and
// touches nothing that is kept. It goes by the rule, bit by bit, not by the table.
func Sum(p []byte) uint32 {
	register := ^uint32(0)
	for _, b := range p {
		register ^= uint32(b)
		for range 8 {
			register = shift(register)
		}
	}
	return ^register
}

// More is the sum of some bytes and, behind them, p, where c is the sum of
// those. It goes by the table.
func More(c uint32, p []byte) uint32 {
	calls.Add(1)
	return byTable(c, p)
}

// Calls is how many times Of and More were called so far.
func Calls() uint64 {
	return calls.Load()
}

// byTable lays the table ahead of the first sum that needs it, whoever comes first.
func byTable(c uint32, p []byte) uint32 {
	once.Do(layHalves)
	register := ^c
	for _, b := range p {
		register ^= uint32(b)
		register = register>>4 ^ halves[register&15]
		register = register>>4 ^ halves[register&15]
	}
	return ^register
}

// layHalves lays what four bits, the lowest first, make of the register.
func layHalves() {
	for i := range halves {
		register := uint32(i)
		for range 4 {
			register = shift(register)
		}
		halves[i] = register
	}
}

// shift takes one bit out of the register.
func shift(register uint32) uint32 {
	if register&1 == 1 {
		return register>>1 ^ polynomial
	}
	return register >> 1
}
