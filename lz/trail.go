package lz

import (
	"bytes"

	"firkin/api"
)

// three are the bytes that the least match has: any match is of a place that has the same three.
type three [api.MinMatch]byte

// trail tells of each place how far back the last one with the same three bytes is; 0, if a match can't reach it.
func trail(b []byte) []uint16 {
	back := make([]uint16, len(b))
	last := map[three]int{}
	for at := range len(b) - api.MinMatch + 1 {
		key := three(b[at : at+api.MinMatch])
		if p, there := last[key]; there && at-p <= api.Window {
			back[at] = uint16(at - p)
		}
		last[key] = at
	}
	return back
}

// longest tells the token of the bytes from a place on. The trail goes from near to far, so of as many bytes the nearest stay.
func longest(b []byte, back []uint16, at int) api.Token {
	most := min(api.MaxMatch, len(b)-at)
	t := api.Token{Lit: b[at]}
	long := api.MinMatch - 1
	for p := at; back[p] > 0 && long < most; {
		p -= int(back[p])
		if at-p > api.Window {
			break
		}
		if longer(b, p, at, long) {
			long = same(b, p, at, long+1, most)
			t = api.Token{Len: long, Dist: at - p}
		}
	}
	return t
}

// longer tells whether more than long bytes are the same from both places on. The last of them is asked first: it is the one that is likely not the same.
func longer(b []byte, p, at, long int) bool {
	return b[p+long] == b[at+long] && bytes.Equal(b[p:p+long], b[at:at+long])
}

// same tells how many bytes are the same from both places on, of which long are known to be.
func same(b []byte, p, at, long, most int) int {
	for long < most && b[p+long] == b[at+long] {
		long++
	}
	return long
}
