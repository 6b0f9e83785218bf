package dict

import (
	"firkin/api"
	"firkin/nums"
)

// bucketBytes tells a bucket's bytes.
func bucketBytes(texts []string) []byte {
	b := nums.Text(texts[0])
	for i, text := range texts[1:] {
		n := same(texts[i], text)
		b = append(b, nums.Num(uint64(n))...)
		b = append(b, nums.Text(text[n:])...)
	}
	return b
}

// bucket takes the texts of a bucket, behind the text ahead of each; its cursor keeps the first error, and takes nothing any more behind it.
type bucket struct {
	*nums.Cursor
	ahead string
}

// first takes the bucket's first text.
func (b *bucket) first() string {
	text := b.Text(api.MaxTerm)
	b.follow(text)
	return text
}

// further takes a text that isn't the first one.
func (b *bucket) further() string {
	n := b.Int(len(b.ahead))
	text := b.ahead[:n] + b.Text(api.MaxTerm)
	if same(b.ahead, text) != n {
		b.Fail(api.ErrForm)
	}
	b.follow(text)
	return text
}

// follow goes past a text, which must be one that may follow.
func (b *bucket) follow(text string) {
	if !mayFollow(b.ahead, text) {
		b.Fail(api.ErrForm)
	}
	b.ahead = text
}
