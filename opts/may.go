package opts

import "firkin/api"

const (
	minBlock = 16
	maxBlock = api.MaxRaw
)

// may tells whether the options may be for a version that is there. Each version's rule sets to 0 what it has asked about, since the rules ahead, that it falls through to, want 0 wherever an option isn't theirs.
func may(version int, o api.Opts) bool {
	switch version {
	case 3:
		if !mayStripe(o) {
			return false
		}
		o.Data, o.Parity, o.Chunk = 0, 0, 0
		fallthrough
	case 2:
		if !isFrom(1, api.MaxBucket, o.Bucket) {
			return false
		}
		o.Bucket = 0
		fallthrough
	case 1:
		return isFrom(minBlock, maxBlock, o.Block) && o == api.Opts{Block: o.Block, Plain: o.Plain}
	}
	return false
}

// mayStripe tells whether there may be stripes of these. Parity is asked ahead of both together, which may be more than an int has room for.
func mayStripe(o api.Opts) bool {
	return o.Parity >= 0 && isFrom(1, api.MaxParts-o.Parity, o.Data) && isFrom(1, api.MaxChunk, o.Chunk)
}

// isFrom tells whether x is from least to most.
func isFrom(least, most, x int) bool { return least <= x && x <= most }
