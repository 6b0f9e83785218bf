package nums

import (
	"slices"

	"firkin/api"
)

// Cursor goes along bytes; it embeds those that are ahead of it.
type Cursor struct {
	row
	at  int       // how many bytes it has taken
	err api.Errno // the first error
}

// New makes a cursor at the first of the bytes.
func New(b []byte) *Cursor {
	return &Cursor{row: slices.Clone(b)}
}

// Left tells how many bytes are ahead.
func (c *Cursor) Left() int {
	if c == nil {
		return 0
	}
	return len(c.row)
}

// At tells how many bytes are taken.
func (c *Cursor) At() int {
	if c == nil {
		return 0
	}
	return c.at
}

// Err tells the cursor's error.
func (c *Cursor) Err() api.Errno {
	if c == nil {
		return api.ErrArg
	}
	return c.err
}

// Num takes the next number.
func (c *Cursor) Num() (told uint64) {
	c.read(func() api.Errno { return c.number(taker(c, &told)) })
	return told
}

// Int takes the next number, if it is at most so much.
func (c *Cursor) Int(most int) (told int) {
	c.read(func() api.Errno { return c.count(most, taker(c, &told)) })
	return told
}

// Byte takes the next byte.
func (c *Cursor) Byte() uint8 {
	return uint8(c.Fixed(1))
}

// Fixed takes the next fixed number, of n bytes.
func (c *Cursor) Fixed(n int) (told uint64) {
	c.read(func() api.Errno { return c.fixed(n, taker(c, &told)) })
	return told
}

// Take takes the next n bytes.
func (c *Cursor) Take(n int) []byte {
	var told row
	c.read(func() api.Errno { return c.first(n, taker(c, &told)) })
	return slices.Clone(told)
}

// Text takes the next text, if it has at most so many bytes.
func (c *Cursor) Text(most int) string {
	var told row
	c.read(func() api.Errno { return c.text(most, taker(c, &told)) })
	return string(told)
}

// Fail gives the cursor an error, if it has none.
func (c *Cursor) Fail(e api.Errno) {
	c.read(func() api.Errno { return e })
}

// End tells the cursor's error; that bytes are left is one, too.
func (c *Cursor) End() api.Errno {
	c.read(func() api.Errno {
		if len(c.row) > 0 {
			return api.ErrForm
		}
		return api.OK
	})
	return c.Err()
}

// read goes on, if there is a cursor and nothing is wrong so far, and keeps the error that this tells.
func (c *Cursor) read(goOn func() api.Errno) {
	if c == nil || c.err != api.OK {
		return
	}
	c.err = goOn()
}

// taker makes what goes on last, where nothing is wrong any more: it tells what was read, and takes the bytes ahead of those behind it.
func taker[T any](c *Cursor, told *T) func(read T, behind row) api.Errno {
	return func(read T, behind row) api.Errno {
		*told = read
		c.at += len(c.row) - len(behind)
		c.row = behind
		return api.OK
	}
}
