package vipr_test

import (
	"math/big"
	"math/rand"
	"slices"
	"strconv"
	"strings"
	"testing"
	"unsafe"

	"cutwater/api"
	"cutwater/cert"
	"cutwater/tell"
	"cutwater/vipr"
)

// Example 1, and what the text tells.
func TestExample(t *testing.T) {
	checkParse(t, good, goodTold)
	checkWrong(t, "VER 1.1", api.ErrWord, 2)
	checkWrong(t, "", api.ErrWord, 1)
}

// P23.1: what is read, at the edges of the grammar.
func TestParse(t *testing.T) {
	for text, want := range map[string]string{
		"VER 1.0 VAR 0 INT 0 OBJ min 0 CON 0 0 RTP infeas SOL 0 DER 0":                                                                       "| | | | none - - | |",
		"VER 1.0 VAR 0 INT 0 OBJ min 0 CON 0 0 RTP range -inf inf SOL 2 x 0 x 0 DER 0":                                                       "| | | | range - - | ; ; |",
		"VER 1.0 VAR 1 x INT 0 OBJ min 0 CON 0 0 RTP range 0 inf SOL 0 DER 0":                                                                "x | - | | | range 0 - | |",
		"VER 1.0 VAR 1 x INT 0 OBJ min 0 CON 0 1000000 RTP range -inf -0/7 SOL 0 DER 0":                                                      "x | - | | | range - 0 | |",
		"VER 1.0 VAR 002 INT INT INT 002 00 000001 OBJ min 01 01 +6/4 CON 00 09 RTP range +5 -5 SOL 00 DER 0":                                "INT INT | ww | 3/2@1 | | range 5 -5 | |", // names are what they are, twice too
		"VER 1.0 VAR 2 { } INT 1 1 OBJ min 0 CON 1 0 } E -0 0 RTP infeas SOL 0 DER 1 asm G 0/3 0 { rnd 1 0 -4/2 } 7":                         "{ } | -w | | = 0; | none - - | | >= 0 by round -2@0;",
		"VER 1.0 VAR 0 INT 0 OBJ min 0 CON 1 1 c L 0 0 RTP infeas SOL 0 DER 2 d L 0 0 { uns 0 0 0 0 } 0 d L 0 0 { uns 1 01 0 1 } -1":         "| | | <= 0; | none - - | | <= 0 by split; <= 0 by split at 1 1 0 1;",
		"VER 1.0 VAR 1 " + strings.Repeat("~", 32) + " INT 0 OBJ min 0 CON 1 0 " + strings.Repeat("!", 99) + " L 0 0 RTP infeas SOL 0 DER 0": strings.Repeat("~", 32) + " | - | | <= 0; | none - - | |",
	} {
		checkParse(t, text, want)
		checkOther(t, text)
	}
}

// P23.1: what stands between words.
func TestBlanks(t *testing.T) {
	for _, blank := range []string{" ", "\t", "\r", "\n", "\r\n", " \t\r\n  "} {
		text := strings.ReplaceAll(good, " ", blank)
		checkParse(t, text, goodTold)
		checkParse(t, blank+text+blank, goodTold)
		checkWrong(t, blank, api.ErrWord, 1)
		checkWrong(t, text+blank+"x"+blank, api.ErrTail, len(strings.Fields(good))+1)
	}
	for _, other := range []string{"\x00", "\v", "\f", "\x7f", "\x80", "\u0085", "\u00a0", "\u2028", "\ufeff"} {
		checkWrong(t, strings.Replace(good, " ", other, 1), api.ErrWord, 1)
		checkWrong(t, other+" "+good, api.ErrWord, 1)
		checkWrong(t, good+" "+other, api.ErrWord, len(strings.Fields(good))+1)
	}
}

// The numbers of good's words, by what must stand there.
const (
	fixed   = "1 2 3 8 12 13 19 40 44 58 66 71 79 86 94 96 104 106 112 118 124 127"
	names   = "5 6 7"
	senses  = "23 31 37 61 74 89 99 109 121"
	lines   = "22 30 36 46 52 54 60 73 88 98 108 120"
	reasons = "67 80 95 105 113 125"
	lasts   = "72 87 97 107 119 128"
	counts  = "4 9 14 20 21 25 33 39 45 47 53 55 59 63 68 76 81 91 101 111 123 126"
	places  = "10 11 15 17 26 28 34 48 50 56 64 77 92 102"
	ahead   = "69 82 84 114 115 116 117" // places of lines
	vectors = "16 18 27 29 35 49 51 57 65 70 78 83 85 93 103"
	others  = "24 32 38 62 75 90 100 110 122" // numbers
)

// changed gives the good text with one of its words, counted from 1 on, changed.
func changed(no, word string) string {
	list := strings.Fields(good)
	list[tell.Whole(no)-1] = word
	return strings.Join(list, " ")
}

// Each word of good is told among those.
func TestPlaces(t *testing.T) {
	all := strings.Fields(strings.Join([]string{fixed, names, senses, lines, reasons, lasts, counts, places, ahead, vectors, others, "41 42 43"}, " "))
	slices.SortFunc(all, func(a, b string) int { return tell.Whole(a) - tell.Whole(b) })
	for i, no := range all {
		if tell.Whole(no) != i+1 {
			t.Fatalf("%v", all)
		}
	}
	if len(all) != len(strings.Fields(good)) {
		t.Errorf("%d", len(all))
	}
}

// P23.1: what can't stand where it does.
func TestWrong(t *testing.T) {
	const notCounts, notNumbers = "x -1 +1 1.0 1/1 1e1 0x1 -inf inf { 1_0", "x 1/0 -0/00 1/ /1 / 1/-1 1/+1 1/2/3 +-1 --1 1.0 .5 1e1 + - inf 1_0 0x1 -inf0"
	for _, c := range []struct {
		at, words string
		want      api.Errno
	}{
		{fixed, "x 0 ver Ver VER1 {} {{ }} asm -1", api.ErrWord}, {senses, "l LE 1 < = e LG", api.ErrWord}, {"41", "none Range INFEAS 0 -inf", api.ErrWord},
		{names, strings.Repeat("x", 33) + " " + strings.Repeat("y", 100), api.ErrWord}, {names + " " + lines + " " + reasons + " 41 42", "\u00e9 x\x00 \xff \x7f", api.ErrWord},
		{counts + " " + places + " " + ahead + " " + vectors + " " + others + " " + lasts, "1\x00 \xff \u0661", api.ErrWord}, // ahead of ErrNumber
		{counts, notCounts + " 1000001 0001000001 99999999999999999999999", api.ErrNumber}, {places + " " + ahead, notCounts, api.ErrNumber},
		{vectors, notNumbers + " 0 -0 +00 0/5 -inf", api.ErrNumber}, {others, notNumbers + " -inf", api.ErrNumber}, {"42", notNumbers + " +inf -INF --inf", api.ErrNumber},
		{"43", strings.ReplaceAll(notNumbers, " inf", "") + " -inf +inf Inf infeas", api.ErrNumber}, {lasts, "x 1/2 1000001 -2 -01 -0 +1 -1.0 -inf - --1", api.ErrNumber},
		{places, "3 4 1000000 1000001 18446744073709551616 99999999999999999999999", api.ErrIndex}, {"69", "3 4 18446744073709551616", api.ErrIndex}, {"82 84", "4 5 1000001", api.ErrIndex}, {"114 115 116 117", "7 8 18446744073709551623", api.ErrIndex},
		{"11 17 28 50", "0 00", api.ErrIndex}, {"84", "0 1 001", api.ErrIndex}, {reasons, "ASM sum { } 1 lin1 -1 rnd, unsp", api.ErrReason},
	} {
		for _, no := range strings.Fields(c.at) {
			for _, word := range strings.Split(c.words, " ") {
				checkWrong(t, changed(no, word), c.want, tell.Whole(no))
			}
		}
	}
	for _, at := range [][3]string{{"10", "11", "2"}, {"15", "17", "2"}, {"26", "28", "1"}, {"48", "50", "1"}, {"82", "84", "3"}} { // the next place doesn't rise then
		checkWrong(t, changed(at[0], at[2]), api.ErrIndex, tell.Whole(at[1]))
	}
}

// P23.1: what may stand where another word stands in good.
func TestRight(t *testing.T) {
	for _, c := range [][2]string{
		{names, "x VER " + strings.Repeat("~", 32)}, {senses, "L G E"}, {lines, "c0 0 { -1 " + strings.Repeat("y", 1000)}, {lasts, "-1 0 5 1000000 0001000000"}, {"21", "0 7 1000000"},
		{vectors, "1 -1 +2/6 007/0014 " + strings.Repeat("9", 1000)}, {others + " 42 43", "0 -0/5 1 +3/1 -" + strings.Repeat("9", 300) + "/" + strings.Repeat("8", 300)}, {"42", "-inf"}, {"43", "inf"},
		{"10", "0 1"}, {"11", "1 2"}, {"17 28", "1 2"}, {"34 56 64 77 92 102", "0 1 2 " + strings.Repeat("0", 300) + "1"}, {"69", "0 1 2"}, {"84", "2 3"}, {"82", "0 1 2"}, {"114 115 116 117", "0 1 2 3 4 5 6"},
	} {
		for _, no := range strings.Fields(c[0]) {
			for _, word := range strings.Fields(c[1]) {
				if e := checkOther(t, changed(no, word)); e != api.OK {
					t.Errorf("word %s, %.50s: %v", no, word, e)
				}
			}
		}
	}
}

// P23.1: a text that ends too early, wherever, and one that doesn't end.
func TestEnds(t *testing.T) {
	list := strings.Fields(good)
	for n := range list {
		text := strings.Join(list[:n], " ")
		checkWrong(t, text, api.ErrWord, n+1)
		checkWrong(t, text+"\n", api.ErrWord, n+1)
	}
	for _, word := range []string{"x", "0", "-1", "VER", "}", good, strings.Repeat("x", 100)} {
		checkWrong(t, good+" "+word, api.ErrTail, len(list)+1)
		checkWrong(t, good+" "+word+" \x00", api.ErrTail, len(list)+1) // the one behind it isn't come to
	}
	checkWrong(t, good+" \x00 x", api.ErrWord, len(list)+1)
	checkWrong(t, "VER 1.0 VAR 1000000", api.ErrWord, 5)
	checkWrong(t, "VER 1.0 VAR 1 x INT 2 0 0", api.ErrIndex, 9)
}

// P23.1: SOL's count behind RTP infeas.
func TestSol(t *testing.T) {
	const text = "VER 1.0 VAR 1 x INT 0 OBJ min 0 CON 0 0 RTP infeas SOL "
	checkParse(t, text+"0 DER 0", "x | - | | | none - - | |")
	checkParse(t, text+"000 DER 0", "x | - | | | none - - | |")
	for _, count := range []string{"1", "01", "2", "1000000"} {
		checkWrong(t, text+count+" s 0 DER 0", api.ErrSol, 17)
		checkWrong(t, text+count, api.ErrSol, 17)
	}
	for _, count := range []string{"1000001", "x", "-1", "1/1"} {
		checkWrong(t, text+count+" s 0 DER 0", api.ErrNumber, 17)
	}
	checkParse(t, strings.Replace(text, "infeas", "range -inf inf", 1)+"1 s 1 0 5 DER 0", "x | - | | | range - - | 5@0; |")
}

// P23.1: of lines ahead are those of CON, and the derivations above.
func TestLinesAhead(t *testing.T) {
	for n := range 4 {
		for der := range 4 {
			text := "VER 1.0 VAR 0 INT 0 OBJ min 0 CON " + strconv.Itoa(n) + " 0" + strings.Repeat(" c L 0 0", n) + " RTP infeas SOL 0 DER " + strconv.Itoa(der+1) + strings.Repeat(" d L 0 0 { asm } -1", der) + " d L 0 0 { "
			first := len(strings.Fields(text)) + 1
			for place := range 8 {
				p := strconv.Itoa(place)
				for i, reason := range []string{"lin 1 " + p + " 1", "rnd 1 " + p + " 1", "uns " + p + " 0 0 0", "uns 0 " + p + " 0 0", "uns 0 0 " + p + " 0", "uns 0 0 0 " + p} {
					switch whole := text + reason + " } -1"; {
					case place < n+der:
						checkOther(t, whole)
					case i > 2 && n+der == 0: // there is no line 0 either
						checkWrong(t, whole, api.ErrIndex, first+1)
					default:
						checkWrong(t, whole, api.ErrIndex, first+[]int{2, 2, 1, 2, 3, 4}[i])
					}
				}
			}
		}
	}
}

// ten gives the number that a sign and decimal digits tell.
func ten(s string) *big.Int {
	out, _ := new(big.Int).SetString(s, 10)
	return out
}

// P23.1: numbers of however many digits.
func TestNumbers(t *testing.T) {
	r := rand.New(rand.NewSource(231))
	chance := func(n int) string {
		out := make([]byte, n)
		for i := range out {
			out[i] = byte('0' + r.Intn(10))
		}
		return string(out)
	}
	for _, n := range []int{1, 2, 19, 20, 198, 199, 200, 201, 397, 398, 399, 400, 597, 1000, 5000} {
		for _, den := range []string{"", "/1", "/1" + strings.Repeat("0", n), "/" + chance(n) + "7", "/" + chance(250) + "3"} {
			for _, num := range []string{chance(n), "-" + chance(n), "+" + strings.Repeat("0", n) + "8", "-" + strings.Repeat("0", n), strings.Repeat("9", n), "1" + strings.Repeat("0", n)} {
				c, e, no := vipr.Parse("VER 1.0 VAR 0 INT 0 OBJ min 0 CON 1 0 c L " + num + den + " 0 RTP infeas SOL 0 DER 0")
				want := new(big.Rat).SetInt(ten(num))
				if den != "" {
					want.Quo(want, new(big.Rat).SetInt(ten(den[1:])))
				}
				if e != api.OK || no != 0 || tell.OfRat(c.Cons[0].Rhs) != want.RatString() {
					t.Fatalf("%s%s: %v, %d", num, den, e, no)
				}
			}
		}
	}
	long := strings.Repeat("1234567890", 20000)
	checkParse(t, "VER 1.0 VAR 0 INT 0 OBJ min 0 CON 0 0 RTP range -"+long+" inf SOL 0 DER 0", "| | | | range -"+long+" - | |")
	checkWrong(t, "VER 1.0 VAR 0 INT 0 OBJ min 0 CON 0 0 RTP range -"+long+" "+long+"x SOL 0 DER 0", api.ErrNumber, 16)
	checkWrong(t, "VER 1.0 VAR "+long, api.ErrNumber, 4)
	checkWrong(t, "VER 1.0 VAR 1 x INT 1 "+long, api.ErrIndex, 8)
}

// P23.1, P23.2: the greatest counts.
func TestCounts(t *testing.T) {
	const most = 1000000
	text := "VER 1.0 VAR 1000000" + strings.Repeat(" x", most) + " INT 1 999999 OBJ min 1 999999 1 CON 0 1000000 RTP infeas SOL 0 DER 0"
	c, e, no := vipr.Parse(text)
	if e != api.OK || no != 0 || len(c.Names) != most || len(c.Whole) != most || !c.Whole[most-1] || tell.OfVec(c.Obj) != "1@999999" {
		t.Errorf("%v, %d, %d", e, no, len(c.Names))
	}
	if back, e := cert.Print(c); e != api.OK || strings.Join(strings.Fields(back), " ") != strings.Replace(text, "CON 0 1000000", "CON 0 0", 1) {
		t.Errorf("%v, %.100s", e, back)
	}
	text = "VER 1.0 VAR 0 INT 0 OBJ min 0 CON 1000000 0" + strings.Repeat(" c L 0 0", most) + " RTP range -inf inf SOL 1000000" + strings.Repeat(" s 0", most) + " DER 2 d L 0 0 { uns 0 999999 5 7 } -1 d L 0 0 { lin 1 1000000 1 } -1"
	c, e, no = vipr.Parse(text)
	if e != api.OK || no != 0 || len(c.Cons) != most || len(c.Sols) != most || tell.OfDers(c.Ders) != "<= 0 by split at 0 999999 5 7; <= 0 by sum 1@1000000;" {
		t.Errorf("%v, %d, %d", e, no, len(c.Cons))
	}
}

// P23.2: two answers, and an answer and another's, share nothing.
func TestOwnMemory(t *testing.T) {
	first, _, _ := vipr.Parse(good)
	second, _, _ := vipr.Parse(good)
	clear(first.Obj)
	clear(first.Cons[0].Terms[0].Val.Num.Abs)
	clear(first.Ders[0].Uses[0].Val.Den)
	clear(first.Names)
	if got := tell.OfCert(second); got != goodTold {
		t.Errorf("%s", got)
	}
	from := uintptr(unsafe.Pointer(unsafe.StringData(good)))
	for _, name := range second.Names {
		if at := uintptr(unsafe.Pointer(unsafe.StringData(name))); at >= from && at < from+uintptr(len(good)) {
			t.Errorf("%s lies in the text", name)
		}
	}
}
