package words

import "firkin/api"

// each hands the words of a text to whoever asks, one behind the other.
func each(s string, hand func(word string)) {
	for len(s) > 0 {
		n := letters(s)
		if n > 0 {
			hand(allSmall(s[:min(n, api.MaxWord)]))
		}
		s = s[min(n+1, len(s)):] // behind a row of letters is no letter, or the end
	}
}

// letters tells how many letters a text begins with.
func letters(s string) int {
	for i := range len(s) {
		if _, ok := small(s[i]); !ok {
			return i
		}
	}
	return len(s)
}

// allSmall tells letters made small, as a text of its own, so that a word doesn't keep the text that it is of.
func allSmall(s string) string {
	b := make([]byte, len(s))
	for i := range b {
		b[i], _ = small(s[i])
	}
	return string(b)
}

// small tells a letter made small, and whether it is one.
func small(c byte) (byte, bool) {
	switch {
	case 'A' <= c && c <= 'Z':
		c += 'a' - 'A'
		fallthrough
	case 'a' <= c && c <= 'z', '0' <= c && c <= '9':
		return c, true
	}
	return 0, false
}
