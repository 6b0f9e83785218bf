package ef

import "firkin/bits"

// parts is the numbers of a row, each as its low bits and what is above them.
type parts struct {
	width int   // how many low bits each has
	low   []int // of each number its low bits
	high  []int // and what is above them
}

// partsOf cuts the numbers of a row below the bound.
func partsOf(bound int, ids []int) parts {
	p := parts{width: lowBits(bound, len(ids))}
	for _, id := range ids {
		p.low = append(p.low, id&(1<<p.width-1))
		p.high = append(p.high, id>>p.width)
	}
	return p
}

// lowBits tells how many low bits the numbers of a row of n have.
func lowBits(bound, n int) int {
	if n == 0 {
		return 0
	}
	w := 0
	for 1<<(w+1) <= bound/n {
		w++
	}
	return w
}

// count tells how many numbers there are.
func (p parts) count() int {
	return len(p.high)
}

// number puts the parts at a place together.
func (p parts) number(i int) int {
	return p.high[i]<<p.width | p.low[i]
}

// bytes tells the bits of the row. The parts are those of a row below a bound that may be, so the writer refuses none.
func (p parts) bytes() []byte {
	var w bits.Writer
	for _, low := range p.low {
		w.Put(uint64(low), p.width)
	}
	ahead := 0
	for _, high := range p.high {
		w.Unary(high - ahead)
		ahead = high
	}
	return w.Bytes()
}
