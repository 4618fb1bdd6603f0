package vipr_test

import (
	"slices"
	"strings"
	"testing"

	"cutwater/api"
	"cutwater/cert"
	"cutwater/tell"
	"cutwater/vipr"
)

// good is a certificate's text in which all stands that may.
const good = "VER 1.0 VAR 3 x y z INT 2 0 2 OBJ min 2 0 -3 2 1/2 CON 3 1 c0 L 7 2 0 2 1 1 low G -5/2 1 2 -1/3 c2 E 0 0 RTP range -11 -21/2 " +
	"SOL 3 s0 2 0 3 1 1 s1 0 s2 1 2 1/7 DER 6 d0 L 2 1 0 1 { lin 1 0 1/2 } -1 d1 G 0 1 2 1 { rnd 2 1 1 3 -1/2 } 4 d2 L 3 1 0 1 { asm } -1 " +
	"d3 G 4 1 0 1 { asm } 1000000 d4 G 1 0 { uns 3 5 0 6 } -1 d5 E 1 0 { lin 0 } -1"

// goodTold is what it tells.
const goodTold = "x y z | w-w | -3@0 1/2@2 | 2@0 1@1 <= 7; -1/3@2 >= -5/2; = 0; | range -11 -21/2 | 3@0 1@1; ; 1/7@2; | " +
	"1@0 <= 2 by sum 1/2@0; 1@2 >= 0 by round 1@1 -1/2@3; 1@0 <= 3 by assume; 1@0 >= 4 by assume; >= 1 by split at 3 5 0 6; = 1 by sum;"

// checkParse holds what is read of a text against what is told of it.
func checkParse(t *testing.T, text, want string) {
	t.Helper()
	c, e, no := vipr.Parse(text)
	if got := tell.OfCert(c); e != api.OK || no != 0 || got != want || cert.Check(c) != api.OK {
		t.Errorf("Parse(%.300q) = %.300s, %v, %d, not %.300s", text, got, e, no, want)
	}
}

// checkWrong holds what is read of a text against an error and the number of its word.
func checkWrong(t *testing.T, text string, want api.Errno, word int) {
	t.Helper()
	if c, e, no := vipr.Parse(text); e != want || no != word || !zero(c) {
		t.Errorf("Parse(%.1000q) = %.100s, %v, %d, not %v, %d", text, tell.OfCert(c), e, no, want, word)
	}
}

// zero tells whether a certificate is the zero value.
func zero(c api.Cert) bool {
	return tell.OfCert(c) == tell.OfCert(api.Cert{}) && len(c.Names) == 0 && len(c.Lo.Den) == 0 && len(c.Hi.Den) == 0
}

// checkOther holds what is read of a text against the other reader, and gives the error.
func checkOther(t *testing.T, text string) api.Errno {
	t.Helper()
	want, wantE, wantNo := readOther(text)
	c, e, no := vipr.Parse(text)
	if e != wantE || no != wantNo {
		t.Fatalf("Parse(%.1000q): %v, %d, not %v, %d", text, e, no, wantE, wantNo)
	}
	if e != api.OK {
		if !zero(c) {
			t.Fatalf("Parse(%.1000q) = %s, %v", text, tell.OfCert(c), e)
		}
		return e
	}
	got, wrong := cert.Print(c)
	if wrong != api.OK || !slices.Equal(strings.Fields(got), want) {
		t.Fatalf("Parse(%.1000q) is written as %.1000q, not as %.1000q", text, got, strings.Join(want, " "))
	}
	return e
}
