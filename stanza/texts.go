package stanza

import (
	"slices"
	"strings"

	"tidewater/api"
	"tidewater/signs"
	"tidewater/wrap"
)

const (
	maxWord = 40 // bytes
	maxVer  = 1000000
)

// test tells whether a text may be.
type test func(s string) bool

// oneOf makes the test whether a text is one of these.
func oneOf(texts ...string) test {
	return func(s string) bool { return slices.Contains(texts, s) }
}

// User tells whether s is a user: 1 to MaxName bytes, a to z and 0 to 9.
func User(s string) bool {
	if len(s) < 1 || len(s) > api.MaxName {
		return false
	}
	for _, r := range s {
		if !('a' <= r && r <= 'z' || '0' <= r && r <= '9') {
			return false
		}
	}
	return true
}

// Address answers the user and the device of an address; the device is empty if it has none.
func Address(s string) (string, string, bool) {
	user, device, two := strings.Cut(s, "/")
	if !User(user) || two && !User(device) {
		return "", "", false
	}
	return user, device, true
}

func isAddress(s string) bool {
	_, _, ok := Address(s)
	return ok
}

// isWord tells whether s may be an Id, a Token, a Name or a Reason.
func isWord(s string) bool {
	return 1 <= len(s) && len(s) <= maxWord && signs.Right(s) == api.OK
}

func isNumber(s string) bool {
	_, ok := wrap.Read(s)
	return ok
}

// isVersion tells whether s may be an attribute ver, which isn't there for 0.
func isVersion(s string) bool {
	n, ok := wrap.Read(s)
	return ok && 1 <= n && n <= maxVer
}
