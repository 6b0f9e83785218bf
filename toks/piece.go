package toks

import (
	"math/bits"

	"firkin/api"
)

// untold is how many bytes of a match aren't told: with as many fewer the shortest one has 1, the least number that can be halved.
const untold = api.MinMatch - 1

// end tells what stands behind the pieces of all tokens.
func end() api.Piece { return api.Piece{Sym: api.SymEnd} }

// isMatch tells whether a piece with a symbol that there is is of a match.
func isMatch(p api.Piece) bool { return p.Sym >= api.SymMatch }

// lenBits tells how many bits the length of a match has behind its symbol.
func lenBits(p api.Piece) int { return p.Sym - api.SymMatch }

// halve tells of a number above 0 how many bits stand behind its highest one, and what number these are.
func halve(x int) (n, rest int) {
	n = bits.Len(uint(x)) - 1
	return n, x - 1<<n
}

// whole puts together what was halved.
func whole(n, rest int) int {
	// Any number of bits can be shifted by, if it isn't below 0.
	return 1<<uint(n) + rest
}

// tokenOf tells the one token whose piece it may be; of one that is no token's, whatever comes of it.
func tokenOf(p api.Piece) api.Token {
	if !isMatch(p) {
		return api.Token{Lit: uint8(p.Sym)}
	}
	return api.Token{Len: whole(lenBits(p), p.Len) + untold, Dist: whole(p.Dist, p.Far)}
}
