package dict

import (
	"sort"

	"firkin/api"
)

// row is a row of texts.
type row []string

// isRow tells whether the texts are a row.
func isRow(texts []string) bool {
	ahead := ""
	for _, text := range texts {
		if !mayFollow(ahead, text) {
			return false
		}
		ahead = text
	}
	return len(texts) <= api.MaxTerms
}

// mayFollow tells whether the text may be the one behind another one; ahead of a row's first text stands the empty one.
func mayFollow(ahead, text string) bool {
	return len(text) <= api.MaxTerm && text > ahead
}

// below tells how many texts of the row are below s.
func (r row) below(s string) int {
	return sort.SearchStrings(r, s)
}

// same tells how many bytes both texts begin with.
func same(a, b string) int {
	n := 0
	for n < min(len(a), len(b)) && a[n] == b[n] {
		n++
	}
	return n
}
