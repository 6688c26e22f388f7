package stanza

import (
	"strings"
	"testing"

	"tidewater/api"
)

const (
	user16 = "abcdefghijklmn09"
	allOf  = "abcdefghijklmnopqrstuvwxyz0123456789" // a user's bytes
)

// userByWords is the chapter's user, byte by byte.
func userByWords(s string) bool {
	for i := range len(s) {
		if strings.IndexByte(allOf, s[i]) < 0 {
			return false
		}
	}
	return len(s) >= 1 && len(s) <= 16
}

func checkAddress(t *testing.T, s string) {
	t.Helper()
	user, device, ok := s, "", userByWords(s)
	if at := strings.IndexByte(s, '/'); at >= 0 {
		user, device = s[:at], s[at+1:]
		ok = userByWords(user) && userByWords(device)
	}
	if !ok {
		user, device = "", ""
	}
	if u, d, got := Address(s); u != user || d != device || got != ok {
		t.Fatalf("%.60q: %q %q %v, want %q %q %v", s, u, d, got, user, device, ok)
	}
}

func TestUserOfTexts(t *testing.T) {
	for s, want := range map[string]bool{
		"":                       false,
		"a":                      true,
		"z":                      true,
		"0":                      true,
		"9":                      true,
		"ann":                    true,
		"7up":                    true,
		user16:                   true,
		user16 + "x":             false,
		strings.Repeat("x", 16):  true,
		strings.Repeat("x", 17):  false,
		strings.Repeat("x", 1e6): false,
		"Ann":                    false,
		"a b":                    false,
		" ann":                   false,
		"ann\n":                  false,
		"a-b":                    false,
		"a:b":                    false,
		"a_b":                    false,
		"ann/pad":                false,
		"é":                      false,
		"ann\x00":                false,
		"\xff":                   false,
		"a\xc3":                  false,
		"１":                      false, // a digit, but not one of 0 to 9
		"\ufffd":                 false,
	} {
		if User(s) != want {
			t.Errorf("%.40q: %v", s, !want)
		}
	}
}

func TestUserOfEveryByte(t *testing.T) {
	for b := range 256 {
		c := string([]byte{byte(b)})
		for _, s := range []string{c, "a" + c, c + "0", "ann" + c + "bob", user16[1:] + c, c + user16} {
			if User(s) != userByWords(s) {
				t.Fatalf("%q: %v", s, User(s))
			}
			checkAddress(t, s)
			checkAddress(t, s+"/pad")
			checkAddress(t, "ann/"+s)
		}
	}
}

func TestAddressOfTexts(t *testing.T) {
	for _, x := range []struct {
		s, user, device string
		ok              bool
	}{
		{"ann", "ann", "", true},
		{"ann/pad", "ann", "pad", true},
		{"7/0", "7", "0", true},
		{user16, user16, "", true},
		{user16 + "/" + user16, user16, user16, true},
		{user16 + "x", "", "", false},
		{user16 + "x/pad", "", "", false},
		{"ann/" + user16 + "x", "", "", false},
		{"", "", "", false},
		{"/", "", "", false},
		{"ann/", "", "", false},
		{"/pad", "", "", false},
		{"//", "", "", false},
		{"ann//", "", "", false},
		{"ann//pad", "", "", false},
		{"ann/pad/", "", "", false},
		{"ann/pad/x", "", "", false},
		{"/ann/pad", "", "", false},
		{"Ann/pad", "", "", false},
		{"ann/Pad", "", "", false},
		{"ann/pad ", "", "", false},
		{"ann /pad", "", "", false},
		{"ann@b/pad", "", "", false},
		{"ann\\pad", "", "", false},
		{"ann/\xff", "", "", false},
		{"é/pad", "", "", false},
	} {
		if u, d, ok := Address(x.s); u != x.user || d != x.device || ok != x.ok {
			t.Errorf("%q: %q %q %v", x.s, u, d, ok)
		}
	}
}

func TestAddressOfAllShortTexts(t *testing.T) {
	var grow func(s string)
	grow = func(s string) {
		checkAddress(t, s)
		if len(s) == 6 {
			return
		}
		for _, c := range []string{"a", "9", "/", "A", "\xc3"} {
			grow(s + c)
		}
	}
	grow("")
}

func TestCountsOfEveryKind(t *testing.T) {
	counted := map[int]bool{api.Presence: true, api.Get: true, api.Set: true, api.Result: true, api.Fault: true}
	for _, kind := range []int{-1 << 63, -2, -1, 0, 1, 2, 3, 4, 5, 6, 7, 8, 9, 10, 11, 12, 13, 14, 15, 16, 1<<32 + 1, 1<<63 - 1} {
		for _, s := range []api.Stanza{{Kind: kind}, {Kind: kind, Type: "x", Id: "1", H: 3, Ver: -1, Remove: true, Items: make([]api.Item, 3)}} {
			if Counts(s) != counted[kind] {
				t.Errorf("%d: %v", kind, Counts(s))
			}
		}
	}
}
