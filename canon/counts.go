package canon

import "firkin/api"

// counts tells of each length how many symbols have it; 0 is the length of those without a word.
type counts [api.MaxBits + 1]int

// countOut counts lengths out, and refuses those that aren't right.
func countOut(lens []uint8) (counts, api.Errno) {
	if len(lens) > api.MaxSyms {
		return counts{}, api.ErrCode
	}
	var many counts
	for _, length := range lens {
		if length > api.MaxBits {
			return counts{}, api.ErrCode
		}
		many[length]++
	}
	if !many.right() {
		return counts{}, api.ErrCode
	}
	return many, api.OK
}

// right tells whether the lengths leave no room for another word, nor have more words than there is room for.
func (c counts) right() bool {
	words, weight := 0, 0
	for length := 1; length <= api.MaxBits; length++ {
		words += c[length]
		weight += c[length] << (api.MaxBits - length)
	}
	// A single word can't fill the room: it must have a bit.
	return words == 0 || words == 1 && c[1] == 1 || weight == 1<<api.MaxBits
}

// firsts tells of each length its first word.
func (c counts) firsts() [api.MaxBits + 1]uint16 {
	var firsts [api.MaxBits + 1]uint16
	word := 0
	for length := 1; length <= api.MaxBits; length++ {
		word *= 2
		firsts[length] = uint16(word)
		word += c[length]
	}
	return firsts
}
