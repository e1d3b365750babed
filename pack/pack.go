// Package pack is layer 1: see shared/doc/01-pack.md.
package pack

import "math"

// wordBits is how many bits a word has.
const wordBits = 64

// Field is some bits of a word.
type Field struct{ Shift, Width int }

// Right: is it a field?
func Right(f Field) bool {
	// Width is bounded ahead of the difference, so that no number goes round.
	return isWidth(f.Width) && f.Shift >= 0 && f.Shift <= wordBits-f.Width
}

// Get: a field's value.
func Get(word uint64, f Field) (uint64, bool) {
	if !Right(f) {
		return 0, false
	}
	return word >> f.Shift & lowest(f.Width), true
}

// Put: the word with a field's value.
func Put(word uint64, f Field, value uint64) (uint64, bool) {
	if !Right(f) || !within(value, f.Width) {
		return 0, false
	}
	return word&^mask(f) | value<<f.Shift, true
}

// Signed: a number cut to a width, signed.
func Signed(value uint64, width int) (int64, bool) {
	if !isWidth(width) {
		return 0, false
	}
	// An int64 that is shifted down fills up with its highest bit: that is the sign.
	spare := wordBits - width
	return int64(value<<spare) >> spare, true
}

// Unsigned: a number cut to a width, unsigned.
func Unsigned(value int64, width int) (uint64, bool) {
	if !isWidth(width) {
		return 0, false
	}
	return uint64(value) & lowest(width), true
}

// Fits: is a number what it is cut to a width?
func Fits(value int64, width int, signed bool) bool {
	if signed {
		cut, ok := Signed(uint64(value), width)
		return ok && cut == value
	}
	cut, ok := Unsigned(value, width)
	// At width 64 a number below 0 keeps all its bits, and is no unsigned one all the same.
	return ok && value >= 0 && cut == uint64(value)
}

// Rotate: bits turned round within a width.
func Rotate(value uint64, width, by int) (uint64, bool) {
	if !isWidth(width) || !within(value, width) {
		return 0, false
	}
	up := by % width
	if up < 0 {
		up += width
	}
	return value<<up&lowest(width) | value>>(width-up), true
}

// Apart: has no bit two fields?
func Apart(list ...Field) bool {
	var seen uint64
	for _, f := range list {
		if !Right(f) || seen&mask(f) != 0 {
			return false
		}
		seen |= mask(f)
	}
	return true
}

// Pack: the word of fields' values.
func Pack(fields []Field, values []uint64) (uint64, bool) {
	if len(fields) != len(values) || !Apart(fields...) {
		return 0, false
	}
	var word uint64
	for i, f := range fields {
		next, ok := Put(word, f, values[i])
		if !ok {
			return 0, false
		}
		word = next
	}
	return word, true
}

// Unpack: the fields' values of a word.
func Unpack(word uint64, fields []Field) ([]uint64, bool) {
	if !Apart(fields...) {
		return nil, false
	}
	values := make([]uint64, len(fields))
	for i, f := range fields {
		values[i], _ = Get(word, f)
	}
	return values, true
}

// isWidth: may a number of bits be so wide?
func isWidth(width int) bool { return width >= 1 && width <= wordBits }

// lowest: a word whose lowest bits are 1; the width is one.
func lowest(width int) uint64 { return math.MaxUint64 >> (wordBits - width) }

// within: has a value no bit above a width? The width is one.
func within(value uint64, width int) bool { return value <= lowest(width) }

// mask: a word in which a field's bits are 1; the field is right.
func mask(f Field) uint64 { return lowest(f.Width) << f.Shift }
