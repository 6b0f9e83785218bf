// Package crc is layer 1, sums of bytes (CRC-32 of IEEE 802.3): see shared/doc/01-crc.md.
package crc

import (
	"slices"

	"firkin/api"
)

// sumBytes is how many bytes a sum takes behind the bytes that it is of.
const sumBytes = 4

// fourShifts has at i what four of the document's shifts, with their xors, make of the number i.
// Four bits are the most that keep the table short; a byte then takes two steps.
var fourShifts = [16]uint32{
	0x00000000, 0x1DB71064, 0x3B6E20C8, 0x26D930AC,
	0x76DC4190, 0x6B6B51F4, 0x4DB26158, 0x5005713C,
	0xEDB88320, 0xF00F9344, 0xD6D6A3E8, 0xCB61B38C,
	0x9B64C2B0, 0x86D3D2D4, 0xA00AE278, 0xBDBDF21C,
}

// shifter has at i what some number of shifts makes of the bit i alone.
// Shifts and xors of a number are those of its bits, xored; so these 32 numbers tell all.
type shifter [32]uint32

// Sum tells the sum of the bytes.
func Sum(b []byte) uint32 {
	return More(0, b)
}

// More tells the sum of bytes that have this sum with the parts behind them.
func More(sum uint32, parts ...[]byte) uint32 {
	register := ^sum
	for _, part := range parts {
		register = takeBytes(register, part)
	}
	return ^register
}

// Put tells the bytes with their sum behind them.
func Put(b []byte) []byte {
	out := make([]byte, 0, len(b)+sumBytes)
	out = append(out, b...)
	return append(out, sumAsBytes(Sum(b))...)
}

// Cut tells the bytes without the sum behind them, if it is right.
func Cut(b []byte) ([]byte, api.Errno) {
	if len(b) < sumBytes {
		return nil, api.ErrShort
	}
	end := len(b) - sumBytes
	if !slices.Equal(b[end:], sumAsBytes(Sum(b[:end]))) {
		return nil, api.ErrSum
	}
	return slices.Clone(b[:end]), api.OK
}

// Join tells the sum of bytes of which the first ones have the sum a, and the n others the sum b.
func Join(a, b uint32, n int) uint32 {
	if n < 0 {
		return 0
	}
	// By doubling, since n may be far greater than steps could be gone one by one.
	for by := byteShifter(); n > 0; n >>= 1 {
		if n&1 == 1 {
			a = shiftBy(by, a)
		}
		by = doubled(by)
	}
	return a ^ b
}

// takeBytes goes on with the sum, its bits not yet turned, over the bytes.
func takeBytes(register uint32, b []byte) uint32 {
	for _, x := range b {
		register = shiftByte(register ^ uint32(x))
	}
	return register
}

// shiftByte shifts by the eight bits of a byte.
func shiftByte(x uint32) uint32 {
	x = x>>4 ^ fourShifts[x&15]
	return x>>4 ^ fourShifts[x&15]
}

// sumAsBytes tells the sum as bytes, the lowest one first.
func sumAsBytes(sum uint32) []byte {
	return []byte{byte(sum), byte(sum >> 8), byte(sum >> 16), byte(sum >> 24)}
}

// byteShifter tells the shifter of eight shifts.
func byteShifter() shifter {
	var by shifter
	for i := range by {
		by[i] = shiftByte(1 << i)
	}
	return by
}

// doubled tells the shifter of twice as many shifts.
func doubled(by shifter) shifter {
	var out shifter
	for i, x := range by {
		out[i] = shiftBy(by, x)
	}
	return out
}

// shiftBy tells what the shifter makes of a number.
func shiftBy(by shifter, x uint32) uint32 {
	var out uint32
	for i := 0; x != 0; i++ {
		if x&1 == 1 {
			out ^= by[i]
		}
		x >>= 1
	}
	return out
}
