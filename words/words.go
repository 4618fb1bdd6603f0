// Package words tells what may stand as a word, and as a name: the layers share it.
package words

import (
	"strings"

	"cutwater/api"
)

// Plain tells whether a text has no other bytes than 33 to 126. Bytes above these are no runes, or parts of greater ones.
func Plain(s string) bool {
	return !strings.ContainsFunc(s, func(r rune) bool { return r < '!' || r > '~' })
}

// Name tells whether a text is a name.
func Name(s string) bool { return s != "" && len(s) <= api.MaxName && Plain(s) }
