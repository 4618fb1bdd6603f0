package vipr_test

import (
	"math"
	"math/rand"
	"slices"
	"strconv"
	"strings"
	"testing"

	"cutwater/api"
	"cutwater/cert"
	"cutwater/ratext"
	"cutwater/tell"
	"cutwater/vipr"
)

// P23.2: what is written of a certificate is read as it.
func TestThereAndBack(t *testing.T) {
	r := rand.New(rand.NewSource(232))
	met := map[string]int{}
	for range 3000 {
		c := tell.ChanceCert(r.Intn)
		text, e := cert.Print(c)
		if e != api.OK {
			t.Fatalf("%s: %v", tell.OfCert(c), e)
		}
		back, e, no := vipr.Parse(text)
		if e != api.OK || no != 0 || tell.OfCert(back) != tell.OfCert(c) || cert.Check(back) != api.OK {
			t.Fatalf("%s: %v, %d, %s", tell.OfCert(c), e, no, tell.OfCert(back))
		}
		if again, _ := cert.Print(back); again != text {
			t.Fatalf("%s is written as %q, then as %q", tell.OfCert(c), text, again)
		}
		if want, _, _ := readOther(text); !slices.Equal(strings.Fields(text), want) {
			t.Fatalf("%s is written as %q", tell.OfCert(c), text)
		}
		for _, d := range c.Ders {
			met[strconv.Itoa(d.Reason)]++
		}
		met["sols"] += len(c.Sols)
		if len(text) > 1000 {
			met["long"]++
		}
	}
	if met["1"] < 1000 || met["2"] < 1000 || met["3"] < 1000 || met["4"] < 1000 || met["sols"] < 1000 || met["long"] < 300 {
		t.Errorf("%v", met)
	}
}

// strange gives words that stand somewhere, or nowhere.
func strange(r *rand.Rand) string {
	list := strings.Fields("VER 1.0 VAR INT OBJ min CON RTP infeas range -inf inf SOL DER L G E { } asm lin rnd uns -1 0 0 0 1 1 1 2 2 3 4 5 6 7 00 01 1/2 -3 +4/6 0/5 1/0 1000000 1000001 99999999999999999999 x \x00 \xff \u00e9 " + strings.Repeat("y", 32) + " " + strings.Repeat("y", 33))
	return list[r.Intn(len(list))]
}

// mixed gives words of which some were changed.
func mixed(list []string, r *rand.Rand) []string {
	out := slices.Clone(list)
	for range 1 + r.Intn(3) {
		i, k := r.Intn(len(out)), r.Intn(len(out))
		switch r.Intn(10) {
		case 0, 1:
			out = slices.Insert(out, i, strange(r))
		case 2:
			out[i], out[k] = out[k], out[i]
		case 3:
			out = slices.Delete(out, i, min(i+1+r.Intn(2), len(out)))
			out = append(out, strange(r))
		case 4:
			out[1+slices.Index(out[:len(out)-1], "SOL")] = strange(r)
		case 5:
			out = append(out, strange(r))
		default:
			out[i] = strange(r)
		}
	}
	return out
}

// P23.1: texts in which words were changed, held against another reader.
func TestByChance(t *testing.T) {
	r := rand.New(rand.NewSource(233))
	met := map[api.Errno]int{}
	for range 400 {
		text, _ := cert.Print(tell.ChanceCert(r.Intn))
		list := strings.Fields(text)
		for range 40 {
			text = strings.Join(mixed(list, r), []string{" ", "\n", "\t ", "\r\n"}[r.Intn(4)])
			met[checkOther(t, text)]++
		}
	}
	for _, e := range []api.Errno{api.OK, api.ErrWord, api.ErrNumber, api.ErrIndex, api.ErrReason, api.ErrSol, api.ErrTail} {
		if met[e] < 100 {
			t.Errorf("%v: only %d", e, met[e])
		}
	}
}

// P23.1: each word of the good text left out, doubled, or in the place of another.
func TestEachWord(t *testing.T) {
	list := strings.Fields(good)
	for i := range list {
		checkOther(t, strings.Join(slices.Delete(slices.Clone(list), i, i+1), " "))
		for k := range list {
			other := slices.Clone(list)
			other[i] = list[k]
			checkOther(t, strings.Join(other, " "))
		}
		checkOther(t, strings.Join(slices.Insert(slices.Clone(list), i, list[i]), " "))
	}
}

// P1, P23.1: texts of bytes by chance.
func TestBytes(t *testing.T) {
	r := rand.New(rand.NewSource(234))
	for range 3000 {
		text := []byte(good)
		for range 1 + r.Intn(3) {
			text[r.Intn(len(text))] = byte(r.Intn(256))
		}
		checkOther(t, string(text))
		checkOther(t, string(text[r.Intn(len(text)):]))
	}
}

// written is another writer, which takes certificates of any kind.
func written(c api.Cert) string {
	var out []string
	put := func(list ...any) {
		for _, a := range list {
			switch a := a.(type) {
			case int:
				out = append(out, strconv.Itoa(a))
			case string:
				out = append(out, a)
			case api.Rat:
				out = append(out, ratext.Text(a))
			case []api.Term:
				out = append(out, strconv.Itoa(len(a)))
				for _, t := range a {
					out = append(out, strconv.Itoa(t.Col), ratext.Text(t.Val))
				}
			}
		}
	}
	line := func(a api.Cons) {
		put("line", map[int]string{1: "L", 2: "G", 3: "E"}[a.Sense]+"", a.Rhs, a.Terms)
	}
	put("VER", "1.0", "VAR", len(c.Names), strings.Join(c.Names, "\n"))
	var whole []any
	for i, is := range c.Whole {
		if is {
			whole = append(whole, i)
		}
	}
	put("INT", len(whole))
	put(whole...)
	put("OBJ", "min", c.Obj, "CON", len(c.Cons), 0)
	for _, a := range c.Cons {
		line(a)
	}
	put("RTP", map[int]string{1: "infeas", 2: "range"}[c.Claim])
	if c.Claim == 2 {
		put(map[bool]any{false: "-inf", true: c.Lo}[c.HasLo], map[bool]any{false: "inf", true: c.Hi}[c.HasHi])
	}
	put("SOL", len(c.Sols))
	for _, v := range c.Sols {
		put("s", v)
	}
	put("DER", len(c.Ders))
	for _, d := range c.Ders {
		line(d.Cons)
		put("{", map[int]string{1: "asm", 2: "lin", 3: "rnd", 4: "uns"}[d.Reason])
		switch d.Reason {
		case 2, 3:
			put(d.Uses)
		case 4:
			put(d.Left, d.LeftIf, d.Right, d.RightIf)
		}
		put("}", -1)
	}
	return strings.Join(out, " ")
}

// spoil changes something of a certificate, which may stay right.
func spoil(c *api.Cert, r *rand.Rand) {
	number := func(a *api.Rat) {
		list := []api.Rat{{}, {Den: []uint64{1, 0}}, tell.Rat("0"), tell.Rat("1"), tell.LooseRat(*a, r.Intn), *a}
		*a = list[r.Intn(len(list))]
	}
	place := func(n *int) {
		list := []int{-1, 0, 0, 1, 2, 3, 4, 5, 6, *n, *n + 1, *n - 1, math.MaxInt, math.MinInt}
		*n = list[r.Intn(len(list))]
	}
	vector := func(v *[]api.Term) {
		switch i := r.Intn(len(*v) + 1); {
		case i == len(*v):
			*v = append(*v, api.Term{Col: r.Intn(6) - 1, Val: tell.Rat("7/2")})
		case r.Intn(2) == 0:
			place(&(*v)[i].Col)
		default:
			number(&(*v)[i].Val)
		}
	}
	cons := func(a *api.Cons) {
		[]func(){func() { place(&a.Sense) }, func() { number(&a.Rhs) }, func() { vector(&a.Terms) }}[r.Intn(3)]()
	}
	switch k := r.Intn(12); {
	case k == 0:
		c.Whole = append(c.Whole, r.Intn(2) > 0)
	case k == 1 && len(c.Names) > 0:
		c.Names[0] = []string{"", "a b", "x\n", "\xff", "x", strings.Repeat("x", 32), strings.Repeat("x", 33)}[r.Intn(7)]
	case k == 2:
		vector(&c.Obj)
	case k == 3 && len(c.Cons) > 0:
		cons(&c.Cons[r.Intn(len(c.Cons))])
	case k == 4:
		[]func(){func() { place(&c.Claim) }, func() { c.HasLo = !c.HasLo }, func() { c.HasHi = !c.HasHi }, func() { number(&c.Lo) }, func() { number(&c.Hi) }}[r.Intn(5)]()
	case k == 5:
		c.Sols = append(c.Sols, nil)
		vector(&c.Sols[r.Intn(len(c.Sols))])
	case len(c.Ders) > 0:
		d := &c.Ders[r.Intn(len(c.Ders))]
		[]func(){func() { place(&d.Left) }, func() { place(&d.LeftIf) }, func() { place(&d.Right) }, func() { place(&d.RightIf) }, func() { place(&d.Reason) }, func() { vector(&d.Uses) }, func() { cons(&d.Cons) }}[r.Intn(7)]()
	}
}

// P22.1, P23.2: a certificate is right just if its text is read as it.
func TestRightIfRead(t *testing.T) {
	r := rand.New(rand.NewSource(235))
	met := map[api.Errno]int{}
	for range 12000 {
		c := tell.ChanceCert(r.Intn)
		for range 1 + r.Intn(2) {
			spoil(&c, r)
		}
		e := cert.Check(c)
		back, wrong, _ := vipr.Parse(written(c))
		if alike := wrong == api.OK && slices.Equal(back.Names, c.Names) && tell.OfCert(back) == tell.OfCert(c); alike != (e == api.OK) {
			t.Fatalf("%s: %v, but %v: %s", tell.OfCert(c), e, wrong, tell.OfCert(back))
		}
		if _, printed := cert.Print(c); printed != e {
			t.Fatalf("%s: %v, then %v", tell.OfCert(c), e, printed)
		}
		met[e]++
		met[wrong]++
	}
	if met[api.OK] < 3000 || met[api.ErrArg] < 3000 || met[api.ErrWord] < 100 || met[api.ErrIndex] < 400 || met[api.ErrNumber] < 100 {
		t.Errorf("%v", met)
	}
}
