package tell

import (
	"strconv"
	"strings"

	"cutwater/api"
)

// reasons gives the words of the reasons, each at its number's place.
func reasons() []string {
	return []string{api.ByAssume: "assume", api.BySum: "sum", api.ByRound: "round", api.BySplit: "split"}
}

// claims gives the words of the claims, each at its number's place.
func claims() []string { return []string{api.ClaimNone: "none", api.ClaimRange: "range"} }

// Ders reads a list of derivations: 1@0 <= 2 by sum 1/2@0 3@4; <= -1 by assume; 1@1 = 0 by split at 5 3 6 4; with Uses and, behind at, Left, LeftIf, Right and RightIf, if one of these isn't 0.
func Ders(s string) []api.Der {
	var out []api.Der
	for _, part := range parts(s) {
		line, why, _ := strings.Cut(part, " by ")
		why, places, split := strings.Cut(why, " at ")
		word, uses, _ := strings.Cut(why, " ")
		d := api.Der{Cons: Cons(line), Reason: kind(reasons(), word), Uses: Vec(uses)}
		if split {
			list := strings.Fields(places)
			d.Left, d.LeftIf, d.Right, d.RightIf = Whole(list[0]), Whole(list[1]), Whole(list[2]), Whole(list[3])
		}
		out = append(out, d)
	}
	return out
}

// OfDers writes a list of derivations.
func OfDers(list []api.Der) string {
	var words []string
	for _, d := range list {
		places := ""
		for _, place := range []int{d.Left, d.LeftIf, d.Right, d.RightIf} {
			places += " " + strconv.Itoa(place)
		}
		if places == " 0 0 0 0" {
			places = ""
		} else {
			places = " at" + places
		}
		words = append(words, OfCons(d.Cons)+" by "+strings.TrimSpace(ofKind(reasons(), d.Reason)+" "+OfVec(d.Uses))+places+";")
	}
	return strings.Join(words, " ")
}

// Cert reads a certificate: x y | w- | -3@0 -2@1 | 2@0 1@1 <= 7; | range -11 - | 3@0 1@1; | 1@0 <= 2 by sum 1/2@0; has two names, of which the first one is whole, Obj, a line, its claim with Lo and without Hi, a solution and a derivation.
func Cert(s string) api.Cert {
	list := strings.Split(s, "|")
	claim := strings.Fields(list[4])
	c := api.Cert{Names: strings.Fields(list[0]), Obj: Vec(list[2]), Cons: ConsList(list[3]), Claim: kind(claims(), claim[0]), Sols: Rows(list[5]), Ders: Ders(list[6])}
	for _, letter := range strings.TrimSpace(list[1]) {
		c.Whole = append(c.Whole, letter == 'w')
	}
	c.HasLo, c.Lo = bound(claim[1])
	c.HasHi, c.Hi = bound(claim[2])
	return c
}

// OfCert writes a certificate.
func OfCert(c api.Cert) string {
	letters := ""
	for _, is := range c.Whole {
		if is {
			letters += "w"
		} else {
			letters += "-"
		}
	}
	claim := ofKind(claims(), c.Claim) + " " + ofBound(c.HasLo, c.Lo) + " " + ofBound(c.HasHi, c.Hi)
	list := []string{strings.Join(c.Names, " "), letters, OfVec(c.Obj), OfConsList(c.Cons), claim, OfRows(c.Sols), OfDers(c.Ders)}
	return strings.Join(strings.Fields(strings.Join(list, " | ")), " ")
}
