package vipr

import (
	"cutwater/api"
	"cutwater/rat"
)

// certificate takes a certificate, and all of the text.
func (r *reader) certificate() api.Cert {
	var c api.Cert
	r.must("VER", "1.0", "VAR")
	for range r.count() {
		c.Names = append(c.Names, r.name())
	}
	n := len(c.Names)
	r.must("INT")
	c.Whole = r.whole(n)
	r.must("OBJ", "min")
	c.Obj = r.vector(n)
	r.must("CON")
	many := r.count()
	r.count() // how many of these are bounds
	for range many {
		c.Cons = append(c.Cons, r.line(n))
	}
	r.must("RTP")
	r.claim(&c)
	r.must("SOL")
	c.Sols = r.sols(c.Claim, n)
	r.must("DER")
	for range r.count() {
		c.Ders = append(c.Ders, r.der(n, len(c.Cons)+len(c.Ders)))
	}
	r.end()
	return c
}

// must takes just these words.
func (r *reader) must(list ...string) {
	for _, word := range list {
		r.one(api.ErrWord, word)
	}
}

// whole takes which of n variables are whole.
func (r *reader) whole(n int) []bool {
	out := make([]bool, n)
	least := 0
	for range r.count() {
		place := r.place(least, n)
		out[place], least = true, place+1
	}
	return out
}

// vector takes a vector with places below n.
func (r *reader) vector(n int) []api.Term {
	var out []api.Term
	least := 0
	for range r.count() {
		t := api.Term{Col: r.place(least, n), Val: r.number()}
		if rat.Sign(t.Val) == 0 {
			r.fail(api.ErrNumber)
		}
		out, least = append(out, t), t.Col+1
	}
	return out
}

// line takes a constraint of n variables, and the word ahead of it that names it.
func (r *reader) line(n int) api.Cons {
	r.next()
	return api.Cons{Sense: api.AtMost + r.one(api.ErrWord, "L", "G", "E"), Rhs: r.number(), Terms: r.vector(n)}
}

// claim takes the claim.
func (r *reader) claim(c *api.Cert) {
	c.Claim = api.ClaimNone + r.one(api.ErrWord, "infeas", "range")
	c.Lo, c.Hi = rat.Whole(0), rat.Whole(0)
	if c.Claim == api.ClaimRange {
		c.HasLo, c.Lo = r.bound("-inf")
		c.HasHi, c.Hi = r.bound("inf")
	}
}

// bound takes a number, or the word that says that there is none.
func (r *reader) bound(none string) (bool, api.Rat) {
	word := r.next()
	if word == none {
		return false, rat.Whole(0)
	}
	return true, r.numberOf(word)
}

// sols takes the solutions; there may be some only where the claim isn't that there are none.
func (r *reader) sols(claim, n int) [][]api.Term {
	many := r.count()
	if claim == api.ClaimNone && many != 0 {
		r.fail(api.ErrSol)
	}
	var out [][]api.Term
	for range many {
		r.next()
		out = append(out, r.vector(n))
	}
	return out
}

// der takes a derivation with so many lines ahead of it.
func (r *reader) der(n, ahead int) api.Der {
	d := api.Der{Cons: r.line(n)}
	r.must("{")
	d.Reason = api.ByAssume + r.one(api.ErrReason, "asm", "lin", "rnd", "uns")
	switch d.Reason {
	case api.BySum, api.ByRound:
		d.Uses = r.vector(ahead)
	case api.BySplit:
		d.Left, d.LeftIf, d.Right, d.RightIf = r.place(0, ahead), r.place(0, ahead), r.place(0, ahead), r.place(0, ahead)
	}
	r.must("}")
	if word := r.next(); word != "-1" {
		r.countOf(word)
	}
	return d
}
