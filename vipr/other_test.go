package vipr_test

import (
	"math/big"
	"regexp"
	"slices"
	"strconv"
	"strings"

	"cutwater/api"
)

// todo are symbols that must still stand, one behind the other, so many times.
type todo struct {
	times int
	list  []string
}

// other is another reader. It takes word by word, and holds each against a symbol: that of the last todo. What stood it keeps as layer 22 writes it.
type other struct {
	wait         []todo
	names, lines int
	least        int // the next place isn't below
	many         map[string]int
	out          []string
}

// push makes symbols the next ones.
func (o *other) push(times int, symbols string) {
	o.wait = append(o.wait, todo{times, strings.Fields(symbols)})
}

// pop gives the next symbol; an empty one, if there is none.
func (o *other) pop() string {
	for len(o.wait) > 0 {
		last := len(o.wait) - 1
		top := o.wait[last]
		o.wait = o.wait[:last]
		if top.times == 1 && len(top.list) == 1 {
			return top.list[0]
		}
		if top.times > 0 {
			o.push(top.times-1, strings.Join(top.list, " "))
			for _, symbol := range slices.Backward(top.list) {
				o.push(1, symbol)
			}
		}
	}
	return ""
}

var (
	digits   = regexp.MustCompile(`^[0-9]+$`)
	fraction = regexp.MustCompile(`^([+-]?[0-9]+)(/0*[1-9][0-9]*)?$`)
	plain    = regexp.MustCompile(`^[!-~]+$`)
	notBlank = regexp.MustCompile(`[^ \t\r\n]+`)
)

// choose goes on with the symbols that stand behind the word in list, as in infeas= range=lo,hi; with an error, if it isn't there.
func (o *other) choose(word, list string, e api.Errno) api.Errno {
	for _, s := range strings.Fields(list) {
		if of, symbols, _ := strings.Cut(s, "="); of == word {
			o.push(1, strings.ReplaceAll(symbols, ",", " "))
			return api.OK
		}
	}
	return e
}

// counted reads a count, and goes on with what it counts.
func (o *other) counted(of, word string) api.Errno {
	n, _ := new(big.Int).SetString(word, 10)
	if !digits.MatchString(word) || n.Cmp(big.NewInt(1000000)) > 0 {
		return api.ErrNumber
	}
	if of == "sol" && slices.Contains(o.out, "infeas") && slices.Index(o.out, "infeas") == len(o.out)-2 && n.Sign() > 0 {
		return api.ErrSol
	}
	times := int(n.Int64())
	o.out = append(o.out, n.String())
	switch of {
	case "var":
		o.names = times
		o.push(times, "name")
	case "int":
		o.push(times, "place:names")
	case "con":
		o.push(times, "line:c")
		o.push(1, "count:bounds")
	case "bounds":
		o.out[len(o.out)-1] = "0"
	case "sol":
		o.push(times, "word:s count:names")
	case "der":
		o.push(times, "line:d ={ reason =} last")
	default:
		o.push(times, "place:"+of+" number:0")
	}
	o.least = 0
	return api.OK
}

// placed reads a place; of tells below what it must be, and whether it must rise.
func (o *other) placed(of, word string) api.Errno {
	n, _ := new(big.Int).SetString(word, 10)
	end := map[string]int{"names": o.names, "lines": o.lines - 1, "any": o.lines - 1}[of]
	switch {
	case !digits.MatchString(word):
		return api.ErrNumber
	case of != "any" && n.Cmp(big.NewInt(int64(o.least))) < 0 || n.Cmp(big.NewInt(int64(end))) >= 0:
		return api.ErrIndex
	}
	o.least = int(n.Int64()) + 1
	o.out = append(o.out, n.String())
	return api.OK
}

// numbered reads a number; of tells which one it can't be.
func (o *other) numbered(of, word string) api.Errno {
	if !fraction.MatchString(word) {
		return api.ErrNumber
	}
	num, den, parted := strings.Cut(word, "/")
	if !parted {
		den = "1"
	}
	above, _ := new(big.Int).SetString(num, 10)
	under, _ := new(big.Int).SetString(den, 10)
	s := new(big.Rat).SetFrac(above, under).RatString()
	if s == of {
		return api.ErrNumber
	}
	o.out = append(o.out, s)
	return api.OK
}

// step holds a word against a symbol.
func (o *other) step(symbol, word string) api.Errno {
	kind, of, _ := strings.Cut(symbol, ":")
	switch kind {
	case "count":
		return o.counted(of, word)
	case "place":
		return o.placed(of, word)
	case "number":
		return o.numbered(of, word)
	case "line":
		if of == "c" || of == "d" {
			o.lines++
		}
		o.push(1, "word:"+of+" sense number count:names")
		return o.step(o.pop(), word)
	case "word":
		o.out = append(o.out, of+strconv.Itoa(o.many[of]))
		o.many[of]++
		return api.OK
	}
	e := api.OK
	switch kind {
	case "name":
		if len(word) > 32 {
			e = api.ErrWord
		}
	case "sense":
		e = o.choose(word, "L G E", api.ErrWord)
	case "claim":
		e = o.choose(word, "infeas range=lo,hi", api.ErrWord)
	case "lo", "hi":
		if word != map[string]string{"lo": "-inf", "hi": "inf"}[kind] {
			return o.numbered("", word)
		}
	case "reason":
		e = o.choose(word, "asm lin=count:lines rnd=count:lines uns=place:any,place:any,place:any,place:any", api.ErrReason)
	case "last":
		if word != "-1" {
			e = o.counted("bounds", word)
			word = "-1"
			o.out = o.out[:len(o.out)-map[api.Errno]int{api.OK: 1}[e]]
		}
	default:
		if "="+word != symbol {
			e = api.ErrWord
		}
	}
	o.out = append(o.out, word)
	return e
}

// readOther reads a text, and gives its words as layer 22 writes them.
func readOther(text string) ([]string, api.Errno, int) {
	o := other{many: map[string]int{}}
	o.push(1, "=VER =1.0 =VAR count:var =INT count:int =OBJ =min count:names =CON count:con =RTP claim =SOL count:sol =DER count:der")
	list := notBlank.FindAllString(text, -1)
	for i, word := range list {
		symbol, e := o.pop(), api.ErrTail
		if !plain.MatchString(word) {
			e = api.ErrWord
		} else if symbol != "" {
			e = o.step(symbol, word)
		}
		if e != api.OK {
			return nil, e, i + 1
		}
	}
	if o.pop() != "" {
		return nil, api.ErrWord, len(list) + 1
	}
	return o.out, api.OK, 0
}
