package words_test

import (
	"strings"
	"testing"

	"cutwater/api"
	"cutwater/words"
)

func TestPlain(t *testing.T) {
	for b := range 256 {
		s := "a" + string([]byte{byte(b)}) + "z"
		if got, want := words.Plain(s), b >= 33 && b <= 126; got != want || words.Name(s) != want {
			t.Errorf("%q: %v, %v", s, got, words.Name(s))
		}
	}
	if !words.Plain("") || !words.Plain(strings.Repeat("x", 1<<16)) || words.Plain("a\u00e9") || words.Plain("\ufffd") {
		t.Error("an empty text, a long one, or one with greater runes")
	}
}

func TestName(t *testing.T) {
	for s, want := range map[string]bool{
		"": false, "x": true, "!~": true, "x y": false, "x\n": false,
		strings.Repeat("x", api.MaxName): true, strings.Repeat("x", api.MaxName+1): false, strings.Repeat("\u00e9", 3): false,
	} {
		if got := words.Name(s); got != want {
			t.Errorf("%q: %v", s, got)
		}
	}
}
