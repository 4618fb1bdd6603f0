package fields_test

import (
	"reflect"
	"slices"
	"strings"
	"testing"
	"unsafe"

	"cutwater/api"
	"cutwater/fields"
)

// split is another reader of lines, which goes through a text from its end on.
func split(text string) ([]api.Line, api.Errno, int) {
	if len(text) > 65536 {
		return nil, api.ErrLong, 0
	}
	parts := strings.Split(text, "\n")
	if parts[len(parts)-1] == "" {
		parts = parts[:len(parts)-1]
	}
	var out []api.Line
	wrong := 0
	for no := len(parts); no > 0; no-- {
		part := parts[no-1]
		if n := len(part); n > 0 && part[n-1] == '\r' {
			part = part[:n-1]
		}
		line := api.Line{No: no, Head: true}
		for _, word := range strings.Split(strings.ReplaceAll(part, "\t", " "), " ") {
			for i := range len(word) {
				if word[i] <= 32 || word[i] >= 127 {
					wrong = no
				}
			}
			if word != "" {
				line.Words = append(line.Words, word)
			}
		}
		if len(line.Words) > 0 && part[0] != '*' {
			line.Head = part[0] != ' ' && part[0] != '\t'
			out = append(out, line)
		}
	}
	if wrong > 0 {
		return nil, api.ErrField, wrong
	}
	slices.Reverse(out)
	return out, api.OK, len(parts)
}

// line gives a line.
func line(no int, head bool, words ...string) api.Line {
	return api.Line{No: no, Head: head, Words: words}
}

// checkLines holds Lines against the other reader.
func checkLines(t *testing.T, text string) {
	t.Helper()
	got, e, no := fields.Lines(text)
	want, wantE, wantNo := split(text)
	if e != wantE || no != wantNo || len(got) != len(want) || len(want) > 0 && !reflect.DeepEqual(got, want) {
		t.Fatalf("Lines(%.60q) = %v, %v, %d, not %v, %v, %d", text, got, e, no, want, wantE, wantNo)
	}
}

// P8.1: all short texts of these bytes.
func TestShort(t *testing.T) {
	var all func(s string, n int)
	all = func(s string, n int) {
		checkLines(t, s)
		for i := 0; n > 0 && i < len("a* \t\r\n\x1f"); i++ {
			all(s+"a* \t\r\n\x1f"[i:i+1], n-1)
		}
	}
	all("", 6)
}

// P8.1: the example, and a text's parts one by one.
func TestLines(t *testing.T) {
	for _, c := range []struct {
		text string
		want []api.Line
		n    int
	}{
		{"", nil, 0}, {"\n", nil, 1}, {"\n\n", nil, 2}, {"\r", nil, 1}, {" ", nil, 1}, {"\n\t", nil, 2}, {" \r\n\r", nil, 2},
		{"ROWS\n N  cost\r\n* x\n\n", []api.Line{line(1, true, "ROWS"), line(2, false, "N", "cost")}, 4},
		{"a", []api.Line{line(1, true, "a")}, 1}, {"a\n", []api.Line{line(1, true, "a")}, 1}, {"\na\r", []api.Line{line(2, true, "a")}, 2},
		{"\ta\tb c", []api.Line{line(1, false, "a", "b", "c")}, 1}, {"a \t  b\t \r\n", []api.Line{line(1, true, "a", "b")}, 1},
		{"*a\n *a\n\t*\na*", []api.Line{line(2, false, "*a"), line(3, false, "*"), line(4, true, "a*")}, 4},
		{"!~ '\"\n", []api.Line{line(1, true, "!~", "'\"")}, 1},
	} {
		got, e, n := fields.Lines(c.text)
		if e != api.OK || n != c.n || len(got) != len(c.want) || len(got) > 0 && !reflect.DeepEqual(got, c.want) {
			t.Errorf("Lines(%q) = %v, %v, %d, not %v, %d", c.text, got, e, n, c.want, c.n)
		}
	}
}

// P8.1: each byte, in a line that counts and in such as don't.
func TestBytes(t *testing.T) {
	for b := range 256 {
		s := string([]byte{byte(b)})
		for _, text := range []string{s, s + s, "a" + s + "b", "ok\n*" + s, "ok\n* " + s + "\n", "ok\n" + s + "\nok\n", "ok\n\n " + s + s + " \r\n", "ok\r\n" + s + "\r\n", "ok\n" + s + "\r", "* é\n" + s} {
			checkLines(t, text)
		}
		got, e, no := fields.Lines("\nx" + s + "x\n")
		if good := b == 9 || b == 10 || b >= 32 && b <= 126; good != (e == api.OK) || !good && (e != api.ErrField || no != 2 || len(got) > 0) {
			t.Errorf("the byte %d: %v, %v, %d", b, got, e, no)
		}
	}
}

// P8.1: what is wrong, and in which line it is first.
func TestWrong(t *testing.T) {
	for text, want := range map[string]int{
		"\x00": 1, "a\n\x7f": 2, "*\x80\nb\x00": 1, "\n\n*é": 3, "a\r\r\n": 1, "a\n\r\r": 2, "a\rb\n": 1, "\r \n": 1, "a\n\u00a0\n": 2, "ok\n\v": 2, "ok\nx\f\r\n": 2, "\ufeffNAME": 1,
	} {
		if got, e, no := fields.Lines(text); e != api.ErrField || no != want || len(got) > 0 {
			t.Errorf("Lines(%q) = %v, %v, %d", text, got, e, no)
		}
	}
}

// P8.1: the limit's edges; a text that is too long is nothing else.
func TestLong(t *testing.T) {
	for _, s := range []string{"a", "\n", " ", "\x00", "* ", "a\r\n"} {
		for n := api.MaxText - 2; n <= api.MaxText+2; n++ {
			text := strings.Repeat(s, n)[:n]
			checkLines(t, text)
			if got, e, no := fields.Lines(text); (n > api.MaxText) != (e == api.ErrLong) || e != api.OK && (len(got) > 0 || e == api.ErrLong && no != 0) {
				t.Errorf("%d of %q: %v, %d", n, s, e, no)
			}
		}
	}
}

// P8.2
func TestBlanks(t *testing.T) {
	lines := []string{"NAME x", " N cost", "\ta  b c", "", "*"}
	want, _, _ := fields.Lines(strings.Join(lines, "\n"))
	for _, between := range []string{" ", "\t", "   ", "\t \t"} {
		for _, end := range []string{"", " ", "\t", " \t  ", "\r", "  \r"} {
			var text string
			for _, line := range lines {
				first := ""
				if words := strings.Fields(line); len(words) > 0 && line[0] != words[0][0] {
					first = between
				}
				text += first + strings.Join(strings.Fields(line), between) + end + "\n"
			}
			if got, e, no := fields.Lines(text); e != api.OK || no != 5 || !reflect.DeepEqual(got, want) {
				t.Errorf("Lines(%q) = %v, %v, %d", text, got, e, no)
			}
		}
	}
}

// P8.2: what was answered outlives what is done to it, and doesn't lie in what was handed in.
func TestOwnMemory(t *testing.T) {
	text := "a b\n c d\n"
	first, _, _ := fields.Lines(text)
	from := uintptr(unsafe.Pointer(unsafe.StringData(text)))
	for _, line := range first {
		if at := uintptr(unsafe.Pointer(unsafe.StringData(line.Words[0]))); at >= from && at < from+uintptr(len(text)) {
			t.Errorf("%q lies in the text", line.Words[0])
		}
		clear(append(line.Words, "x")[:cap(line.Words)])
	}
	clear(first[:cap(first)])
	checkLines(t, text)
}
