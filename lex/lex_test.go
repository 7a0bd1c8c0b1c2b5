package lex

import (
	"bytes"
	"fmt"
	"math"
	"regexp"
	"slices"
	"strings"
	"testing"

	"weathervane/api"
)

func word(s string, at int) Token { return Token{Kind: Word, Text: s, At: at} }
func sign(s string, at int) Token { return Token{Kind: Sign, Text: s, At: at} }
func end(at int) Token            { return Token{Kind: End, At: at} }

func name(mark byte, s string, at int) Token {
	return Token{Kind: Name, Mark: mark, Text: s, At: at}
}

// short: a text as a failing test tells it.
func short(s string) string {
	return fmt.Sprintf("%.200q", s)
}

// checkNext: the next token is this one, and beside it there is no place.
func checkNext(t *testing.T, of string, x *Lexer, want Token) {
	t.Helper()
	if got, at, e := x.Next(); got != want || at != 0 || e != api.OK {
		t.Errorf("%s: %+v, %d, %d, want %+v", short(of), got, at, e, want)
	}
}

// checkFault: there is no token, but a fault at this place, and nothing beside it.
func checkFault(t *testing.T, of string, x *Lexer, want int) {
	t.Helper()
	if got, at, e := x.Next(); got != (Token{}) || at != want || e != api.ErrSyntax {
		t.Errorf("%s: %+v, %d, %d, want ErrSyntax at %d", short(of), got, at, e, want)
	}
}

// checkTokens: the text's tokens are these, and End is behind them, again and again.
func checkTokens(t *testing.T, s string, want ...Token) {
	t.Helper()
	x := New([]byte(s))
	for _, k := range want {
		checkNext(t, s, x, k)
	}
	for range 3 {
		checkNext(t, s, x, end(len(s)))
	}
}

// checkBroken: these tokens, and then the fault at this place.
func checkBroken(t *testing.T, s string, at int, ahead ...Token) {
	t.Helper()
	x := New([]byte(s))
	for _, k := range ahead {
		checkNext(t, s, x, k)
	}
	checkFault(t, s, x, at)
}

// P8.1, P8.2: a text as it is written, with all kinds of tokens, each with where it begins.
func TestText(t *testing.T) {
	checkTokens(t, "global $g;\nfunc @f(%a, %\"b c\") {\n\t*%a = &#h; // away\n}",
		word("global", 0), name('$', "g", 7), sign(";", 9),
		word("func", 11), name('@', "f", 16), sign("(", 18), name('%', "a", 19), sign(",", 21), name('%', "b c", 23), sign(")", 29), sign("{", 31),
		sign("*", 34), name('%', "a", 35), sign("=", 38), sign("&", 40), name('#', "h", 41), sign(";", 43),
		sign("}", 53))
	checkTokens(t, `%"a b"`, name('%', "a b", 0))
}

// P8.1, P8.2: End stands at the end: of nothing, and behind blanks and comments.
func TestEnd(t *testing.T) {
	for _, s := range []string{"", " ", "\t\r\n ", "//", "// a", "/**/", "/* a */\n", "//\n"} {
		checkTokens(t, s)
	}
	x := New(nil)
	for range 3 {
		checkNext(t, "nil", x, end(0))
	}
}

// P8.1: a Word is as many small letters as follow one another, whatever word it is.
func TestWord(t *testing.T) {
	checkTokens(t, "func", word("func", 0))
	checkTokens(t, "abcdefghijklmnopqrstuvwxyz", word("abcdefghijklmnopqrstuvwxyz", 0))
	checkTokens(t, "a b\tc\rd\ne", word("a", 0), word("b", 2), word("c", 4), word("d", 6), word("e", 8))
	checkTokens(t, "a/**/b//\nc", word("a", 0), word("b", 5), word("c", 9))
	checkTokens(t, "var%a", word("var", 0), name('%', "a", 3))
	checkTokens(t, "az(za", word("az", 0), sign("(", 2), word("za", 3))
	for _, s := range []string{"aA", "a0", "a_", "a.", "a\"", "a\x00", "aé"} {
		checkBroken(t, s, 1, word("a", 0))
	}
}

// P8.1: each of the signs, by itself and beside another one.
func TestSigns(t *testing.T) {
	const all = ";=&*(),{}"
	for i := range len(all) {
		a := all[i : i+1]
		checkTokens(t, a, sign(a, 0))
		for j := range len(all) {
			b := all[j : j+1]
			checkTokens(t, a+b, sign(a, 0), sign(b, 1))
		}
	}
}

// P8.1, P8.2: each byte by itself, and behind a token.
func TestEachByte(t *testing.T) {
	for b := range 256 {
		s := string([]byte{byte(b)})
		switch {
		case strings.Contains(" \t\r\n", s):
			checkTokens(t, s)
			checkTokens(t, s+"a"+s+";"+s, word("a", 1), sign(";", 3))
		case strings.Contains(";=&*(),{}", s):
			checkTokens(t, s, sign(s, 0))
		case 'a' <= b && b <= 'z':
			checkTokens(t, s, word(s, 0))
		case strings.Contains("%$@#", s):
			checkBroken(t, s, 1)
			checkTokens(t, s+"x", name(byte(b), "x", 0))
			checkTokens(t, s+`""`, name(byte(b), "", 0))
		default:
			checkBroken(t, s, 0)
			checkBroken(t, ";"+s, 1, sign(";", 0))
			checkBroken(t, "\n\n"+s+"a", 2)
		}
	}
}

// P8.1: a comment from // goes up to the end of the line, or of the text.
func TestLineComments(t *testing.T) {
	checkTokens(t, "a//b\nc", word("a", 0), word("c", 5))
	checkTokens(t, "a // \" \\ \x00 \xff é A /* \n c", word("a", 0), word("c", 23))
	checkTokens(t, "//\r;\n=", sign("=", 5))
	checkTokens(t, "////\n;", sign(";", 5))
	checkTokens(t, "//*\n;", sign(";", 4))
	checkTokens(t, "*//*/;", sign("*", 0))
	checkTokens(t, "// a\n// b\n  // c\n;// d", sign(";", 17))
	checkTokens(t, "; //", sign(";", 0))
}

// P8.1: a comment from /* goes up to the next */, over lines, and holds no other one.
func TestBlockComments(t *testing.T) {
	checkTokens(t, "a/*b*/c", word("a", 0), word("c", 6))
	checkTokens(t, "/**/;", sign(";", 4))
	checkTokens(t, "/***/;", sign(";", 5))
	checkTokens(t, "/*/*/;", sign(";", 5))
	checkTokens(t, "/* * / \n \" \\ \x00 \xff A // */;", sign(";", 24))
	checkTokens(t, "/*a*//*b*/ /*c*/;", sign(";", 16))
	checkTokens(t, "/*//*/;\n", sign(";", 6))
	checkTokens(t, "/* /* */ ;", sign(";", 9))
	checkTokens(t, "&/**/*", sign("&", 0), sign("*", 5))
	checkBroken(t, "/* /* */ */", 10, sign("*", 9))
}

// P8.2: of a comment that doesn't end its beginning.
func TestCommentsWithoutEnd(t *testing.T) {
	for _, s := range []string{"/*", "/*/", "/**", "/* a", "/* a *", "/* a * /", "/*\n\n", "/*//\n", "/*/*", "/*\xff"} {
		checkBroken(t, s, 0)
		checkBroken(t, " \n "+s, 3)
		checkBroken(t, "/**/"+s, 4)
		checkBroken(t, "//*/\n"+s, 5)
		checkBroken(t, "%a"+s, 2, name('%', "a", 0))
	}
	for _, s := range []string{"/", "/;", "/ /", "/a", "/\n*", "/\"", "/\x00"} {
		checkBroken(t, s, 0)
		checkBroken(t, "a "+s, 2, word("a", 0))
	}
}

// P8.1: a bare name: a letter or _, then letters, digits, _ and points, as many as follow.
func TestBareNames(t *testing.T) {
	for _, mark := range []byte("%$@#") {
		for _, s := range []string{"a", "z", "A", "Z", "_", "__", "_9", "a.b", "a..", "a0123456789", "aAzZ_.09", "func", "x.y.z_1", strings.Repeat("aB3._", 10000)} {
			m := string(mark)
			n := 1 + len(s)
			checkTokens(t, m+s, name(mark, s, 0))
			checkTokens(t, "\t"+m+s+"\n", name(mark, s, 1))
			checkTokens(t, m+s+m+s, name(mark, s, 0), name(mark, s, n))
			checkTokens(t, m+s+";a", name(mark, s, 0), sign(";", n), word("a", n+1))
			checkTokens(t, m+s+"//"+s, name(mark, s, 0))
		}
	}
	for _, s := range []string{"-", "\"", "\\", "/", "é", "\x00", "\x7f", "\x80", "'", "`", "[", "^", ":", "!", "+"} {
		checkBroken(t, "%a"+s, 2, name('%', "a", 0))
	}
}

// P8.2: behind its mark, at once, a name is to begin: the place is that one.
func TestNoName(t *testing.T) {
	for _, mark := range []string{"%", "$", "@", "#"} {
		for _, s := range []string{"", " a", "\ta", "\na", "/**/a", "//\na", "9", "0a", ".", ".a", "-", "%a", "$", "(", ";", "é", "\\", "\\x41", "'a'", "\x00", "\xff", "{", "@", "[", "`", "/", ":"} {
			checkBroken(t, mark+s, 1)
			checkBroken(t, "a "+mark+s, 3, word("a", 0))
		}
	}
}

// P8.1: a quoted name: the bytes from 20 to 7e as they are, but quotes and backslashes; the name is what is told, without the quotes.
func TestQuotedNames(t *testing.T) {
	for s, want := range map[string]string{
		`""`:            "",
		`" "`:           " ",
		`"a"`:           "a",
		`"9"`:           "9",
		`"a b"`:         "a b",
		`"%$@#;={}"`:    "%$@#;={}",
		`"// a"`:        "// a",
		`"/* a"`:        "/* a",
		`"~"`:           "~",
		`"'"`:           "'",
		`"\""`:          `"`,
		`"\\"`:          `\`,
		`"\\\""`:        `\"`,
		`"\\x41"`:       `\x41`,
		`"\x41"`:        "A",
		`"\x4a5"`:       "J5",
		`"\x00"`:        "\x00",
		`"\x0a"`:        "\n",
		`"\x22\x5c"`:    `"\`,
		`"\x7f\x80"`:    "\x7f\x80",
		`"\xffa\xfe"`:   "\xffa\xfe",
		`"\x09\x19"`:    "\x09\x19",
		`"\xaf\xfa"`:    "\xaf\xfa",
		`"\xc3\xa9"`:    "é",
		`"\x5cx41"`:     `\x41`,
		`"a\\b\"c\x2e"`: `a\b"c.`,
	} {
		for _, mark := range []byte("%$@#") {
			m := string(mark)
			checkTokens(t, m+s, name(mark, want, 0))
			checkTokens(t, " "+m+s+"a", name(mark, want, 1), word("a", 2+len(s)))
			checkTokens(t, m+s+m+s, name(mark, want, 0), name(mark, want, 1+len(s)))
			checkBroken(t, m+s+`"`, 1+len(s), name(mark, want, 0))
		}
	}
	for b := range 256 {
		c := string([]byte{byte(b)})
		checkTokens(t, fmt.Sprintf(`%%"a\x%02xb"`, b), name('%', "a"+c+"b", 0))
		switch {
		case c == `"` || c == `\`:
			checkTokens(t, `%"`+`\`+c+`"`, name('%', c, 0))
		case b >= 0x20 && b <= 0x7e:
			checkTokens(t, `%"`+c+`"`, name('%', c, 0))
		default:
			checkBroken(t, `%"`+c+`"`, 2)
			checkBroken(t, `%"ab\x41`+c+`"`, 8)
		}
	}
}

// P8.2: in quotes the place is that of the byte that can't stand there, or the end; of a \ in quotes the \.
func TestBrokenQuotes(t *testing.T) {
	for s, at := range map[string]int{
		`"`: 1, `"a`: 2, `"a b`: 4, "\"a\n\"": 2, "\"\t\"": 1, "\"a\r\"": 2, "\"\x7f\"": 1, "\"abé\"": 3, "\"\x00\"": 1, "\"\xff": 1, `"\"`: 3, `"\\\"`: 5, `"\x41`: 5, `"a //`: 5,
		`"\`: 1, `"ab\`: 3, `"\a"`: 1, `"\n"`: 1, `"\'"`: 1, `"\ "`: 1, "\"\\\n\"": 1, "\"\\\x00\"": 1, `"\X41"`: 1, `"\u0041"`: 1, `"\0"`: 1, `"\/"`: 1,
		`"\x`: 1, `"\x"`: 1, `"\x4`: 1, `"\x4"`: 1, `"\x4"a`: 1, `"\x4G"`: 1, `"\x4A"`: 1, `"\xG4"`: 1, `"\xA4"`: 1, `"\x 4"`: 1, `"\x4 "`: 1, `"\x\x"`: 1, `"\x4\"`: 1, `"\x-1"`: 1, `"\x/0"`: 1, `"\x:0"`: 1, "\"\\x`0\"": 1, `"\xg0"`: 1, "\"\\x0\n\"": 1,
		`"\x41\x4`: 5, `"\\\q"`: 3, `"\"\q"`: 3, `"\x5c\q"`: 5,
	} {
		for _, mark := range []string{"%", "$", "@", "#"} {
			checkBroken(t, mark+s, 1+at)
			checkBroken(t, " ;/**/"+mark+s, 7+at, sign(";", 1))
		}
	}
}

// P8.2: what is no token by itself, behind and between tokens: the byte.
func TestNoToken(t *testing.T) {
	checkBroken(t, "A", 0)
	checkBroken(t, "  9", 2)
	checkBroken(t, "\"a\"", 0)
	checkBroken(t, "func @f() -", 10, word("func", 0), name('@', "f", 5), sign("(", 7), sign(")", 8))
	checkBroken(t, "/* */\\", 5)
	checkBroken(t, "\v", 0)
	checkBroken(t, "\f", 0)
	checkBroken(t, "\u00a0", 0)
	checkBroken(t, "\ufeffa", 0)
	checkBroken(t, ";\u2028", 1, sign(";", 0))
	checkBroken(t, "_a", 0)
	checkBroken(t, ".a", 0)
}

// These are the chapter's words, as patterns: what stands between tokens, what each token is, and the most of a name that may go on.
var (
	gapPattern    = regexp.MustCompile(`^(?:[ \t\r\n]|//[^\n]*|(?s:/\*.*?\*/))*`)
	wordPattern   = regexp.MustCompile(`^[a-z]+`)
	signPattern   = regexp.MustCompile(`^[;=&*(),{}]`)
	barePattern   = regexp.MustCompile(`^[%$@#][A-Za-z_][A-Za-z0-9_.]*`)
	openPattern   = regexp.MustCompile(`^[%$@#]"(?:[ !#-\[\]-~]|\\["\\]|\\x[0-9a-f][0-9a-f])*`)
	piecePattern  = regexp.MustCompile(`\\x..|\\.|.`)
	markPattern   = regexp.MustCompile(`^[%$@#]`)
	unshutPattern = regexp.MustCompile(`^/\*`)
)

// told: the bytes that are told in quotes.
func told(s string) string {
	return piecePattern.ReplaceAllStringFunc(s, func(piece string) string {
		var b byte
		switch {
		case strings.HasPrefix(piece, `\x`):
			fmt.Sscanf(piece[2:], "%x", &b)
			return string([]byte{b})
		case piece[0] == '\\':
			return piece[1:]
		}
		return piece
	})
}

// byPatterns: the token that follows at a place, by the patterns, and where it ends; below 0: where there is none, turned by ^.
func byPatterns(p string, at int) (Token, int) {
	at += len(gapPattern.FindString(p[at:]))
	rest := p[at:]
	if rest == "" {
		return end(at), at
	}
	if unshutPattern.MatchString(rest) {
		return Token{}, ^at
	}
	if s := wordPattern.FindString(rest); s != "" {
		return word(s, at), at + len(s)
	}
	if s := signPattern.FindString(rest); s != "" {
		return sign(s, at), at + len(s)
	}
	if s := barePattern.FindString(rest); s != "" {
		return name(s[0], s[1:], at), at + len(s)
	}
	if s := openPattern.FindString(rest); s != "" {
		n := len(s)
		if n < len(rest) && rest[n] == '"' {
			return name(s[0], told(s[2:]), at), at + n + 1
		}
		return Token{}, ^(at + n)
	}
	return Token{}, ^(at + len(markPattern.FindString(rest)))
}

// checkByPatterns: a text is gone through as by the patterns.
func checkByPatterns(t *testing.T, s string) {
	t.Helper()
	x := New([]byte(s))
	for at := 0; ; {
		k, next := byPatterns(s, at)
		if next < 0 {
			checkFault(t, s, x, ^next)
			return
		}
		checkNext(t, s, x, k)
		if k.Kind == End {
			return
		}
		at = next
	}
}

// everyText calls with each text of up to so many of these pieces.
func everyText(pieces []string, most int, call func(s string)) {
	var from func(s string, left int)
	from = func(s string, left int) {
		call(s)
		if left > 0 {
			for _, piece := range pieces {
				from(s+piece, left-1)
			}
		}
	}
	from("", most)
}

// P8.1, P8.2, P1: all short texts of bytes that matter, by the patterns.
func TestShortTexts(t *testing.T) {
	for _, pieces := range [][]string{
		{"/", "*", "\n", "a", ";", "%"},
		{"%", "\"", "\\", "x", "4", "a", "\n"},
		{"@", "_", ".", "9", "Z", " ", "\""},
	} {
		everyText(pieces, 6, func(s string) {
			if !t.Failed() {
				checkByPatterns(t, s)
			}
		})
	}
	everyText([]string{`\"`, `\\`, `\x`, `0f`, `a`, `"`, ` `}, 5, func(s string) {
		if !t.Failed() {
			checkByPatterns(t, `#"`+s)
		}
	})
}

// P8.1, P8.2, P1: texts of any pieces, by the patterns.
func TestAnyTexts(t *testing.T) {
	pieces := []string{"global", "entry", "func", "%a", "$b.c", "@_9", "#Z", `%"a b"`, `@"\x00\"\\"`, `#""`, ";", "=", "&", "*", "(", ")", ",", "{", "}", " ", "\n", "\t", "\r", "// c\n", "/* c */", "/***/", "/*\n*/", "//\n"}
	odd := []string{"/", "%", "\"", "\\", "\\x4", "A", "9", "\x00", "\xff", "/*", "//", "é", ".", "_"}
	seed := uint32(1)
	pick := func(n int) int { // a row of numbers that is the same each time
		seed = seed*1664525 + 1013904223
		return int(seed>>8) % n
	}
	for range 20000 {
		var s strings.Builder
		for range pick(30) {
			s.WriteString(pieces[pick(len(pieces))])
			if pick(20) == 0 {
				s.WriteString(odd[pick(len(odd))])
			}
		}
		if checkByPatterns(t, s.String()); t.Failed() {
			return
		}
	}
}

// P8.2: long texts end, too, and their tokens stand where they stand.
func TestLongTexts(t *testing.T) {
	const n = 200000
	x := New([]byte(strings.Repeat("%a;// c\n/**/ ", n)))
	for i := range n {
		checkNext(t, "a long text", x, name('%', "a", i*13))
		checkNext(t, "a long text", x, sign(";", i*13+2))
		if t.Failed() {
			return
		}
	}
	checkNext(t, "a long text", x, end(n*13))
	gap := strings.Repeat(" /* */\n", n)
	checkTokens(t, gap+"a", word("a", len(gap)))
	long := strings.Repeat("ab", n)
	checkTokens(t, long, word(long, 0))
	checkTokens(t, `%"`+strings.Repeat(`\x00 `, n)+`"`, name('%', strings.Repeat("\x00 ", n), 0))
	checkBroken(t, `%"`+long, 2+len(long))
	checkBroken(t, "/*"+long, 0)
}

// P1, P8.2: of a nil one ErrNone, and nothing beside it, again and again.
func TestNilLexer(t *testing.T) {
	var x *Lexer
	for range 3 {
		if k, at, e := x.Next(); k != (Token{}) || at != 0 || e != api.ErrNone {
			t.Errorf("%+v, %d, %d, want ErrNone", k, at, e)
		}
	}
}

// P1: behind an error, and of one that New didn't make, calls end, and none panics.
func TestNextBehindAnError(t *testing.T) {
	for _, s := range []string{"A", "/*", "/", "%", `%"`, `%"\`, `%"\x4`, "a\x00b", "; % ;"} {
		x := New([]byte(s))
		for range 10 {
			x.Next()
		}
	}
	new(Lexer).Next()
}

// Memory: what is handed in isn't changed; and it is nobody's any more when New has answered.
func TestMemory(t *testing.T) {
	const s = `func @f(%"a\x0ab") { /* */ return $b.c; }`
	want := byAll(New([]byte(s)))
	p := []byte(s)
	x := New(p)
	if got := byAll(x); !slices.Equal(got, want) || string(p) != s {
		t.Errorf("%+v, and what was handed in is %q", got, p)
	}
	p = append(make([]byte, 0, 1000), s...)
	x = New(p)
	first, _, _ := x.Next()
	for i := range p {
		p[i] = 'z'
	}
	if got := append([]Token{first}, byAll(x)...); !slices.Equal(got, want) {
		t.Errorf("what was handed in was written over: %+v", got)
	}
	if room := p[:cap(p)][len(p):]; !bytes.Equal(room, make([]byte, len(room))) {
		t.Error("the room behind what was handed in was written to")
	}
}

// byAll: all tokens up to the End.
func byAll(x *Lexer) []Token {
	var l []Token
	for {
		k, _, e := x.Next()
		if e != api.OK || k.Kind == End {
			return l
		}
		l = append(l, k)
	}
}

// P2: two of one text know nothing of each other.
func TestLexersApart(t *testing.T) {
	p := []byte("a %b ; c")
	x, y := New(p), New(p)
	checkNext(t, "x", x, word("a", 0))
	checkNext(t, "x", x, name('%', "b", 2))
	checkNext(t, "y", y, word("a", 0))
	New([]byte("/*")).Next()
	checkNext(t, "x", x, sign(";", 5))
	checkNext(t, "y", y, name('%', "b", 2))
	checkNext(t, "x", x, word("c", 7))
	checkNext(t, "x", x, end(8))
	checkNext(t, "y", y, sign(";", 5))
}

func checkQuote(t *testing.T, s, want string) {
	t.Helper()
	if got := Quote(s); got != want {
		t.Errorf("Quote %s: %s, want %s", short(s), short(got), short(want))
	}
	if got := Bare(s); got != (s == want) {
		t.Errorf("Bare %s: %v", short(s), got)
	}
}

// P8.3: what may stand as a bare name is as it is; all else is in quotes, byte by byte.
func TestBareAndQuote(t *testing.T) {
	for _, s := range []string{"a", "z", "A", "Z", "_", "_9", "a.b", "a.", "_.", "Az09_.", "func", strings.Repeat("a", 100000)} {
		checkQuote(t, s, s)
	}
	for s, want := range map[string]string{
		"":             `""`,
		"9":            `"9"`,
		"9a":           `"9a"`,
		".":            `"."`,
		".a":           `".a"`,
		"a b":          `"a b"`,
		" ":            `" "`,
		"a ":           `"a "`,
		" a":           `" a"`,
		"a-b":          `"a-b"`,
		"%a":           `"%a"`,
		`"`:            `"\""`,
		`\`:            `"\\"`,
		`""`:           `"\"\""`,
		`\"`:           `"\\\""`,
		`\x41`:         `"\\x41"`,
		"'":            `"'"`,
		"a\n":          `"a\x0a"`,
		"\x00":         `"\x00"`,
		"\x1f ~\x7f":   `"\x1f ~\x7f"`,
		"\x80\xff\xab": `"\x80\xff\xab"`,
		"é":            `"\xc3\xa9"`,
		"aé":           `"a\xc3\xa9"`,
		"\ufffd":       `"\xef\xbf\xbd"`,
		"\u212a":       `"\xe2\x84\xaa"`,
		"/* */":        `"/* */"`,
	} {
		checkQuote(t, s, want)
	}
}

// P8.3: each byte, by itself and behind a letter.
func TestQuoteEachByte(t *testing.T) {
	for b := range 256 {
		c := string([]byte{byte(b)})
		letter := 'a' <= b && b <= 'z' || 'A' <= b && b <= 'Z' || b == '_'
		further := letter || '0' <= b && b <= '9' || b == '.'
		told := c
		switch {
		case c == `"` || c == `\`:
			told = `\` + c
		case b < 0x20 || b > 0x7e:
			told = fmt.Sprintf(`\x%02x`, b)
		}
		one, two := `"`+told+`"`, `"Q`+told+`"`
		if letter {
			one = c
		}
		if further {
			two = "Q" + c
		}
		checkQuote(t, c, one)
		checkQuote(t, "Q"+c, two)
		checkQuote(t, "9"+c, `"9`+told+`"`)
	}
}

// P8.1, P8.3: what Quote writes behind a mark is that name.
func TestQuoteIsRead(t *testing.T) {
	for a := range 256 {
		for b := range 256 {
			for _, s := range []string{string([]byte{byte(a), byte(b)}), string([]byte{'a', byte(a), byte(b)})} {
				checkTokens(t, "@"+Quote(s), name('@', s, 0))
			}
		}
		if t.Failed() {
			return
		}
	}
	for _, s := range []string{"", "a", strings.Repeat("\x00\"\\a", 100000)} {
		checkTokens(t, "@"+Quote(s), name('@', s, 0))
	}
}

// P8.3: the line and the column of each place, and of those beyond the text's ends.
func TestPlace(t *testing.T) {
	for s, want := range map[string][][2]int{
		"":            {{1, 1}},
		"a":           {{1, 1}, {1, 2}},
		"\n":          {{1, 1}, {2, 1}},
		"ab\n\nc":     {{1, 1}, {1, 2}, {1, 3}, {2, 1}, {3, 1}, {3, 2}},
		"\n\na\n":     {{1, 1}, {2, 1}, {3, 1}, {3, 2}, {4, 1}},
		"a\r\nb\rc":   {{1, 1}, {1, 2}, {1, 3}, {2, 1}, {2, 2}, {2, 3}, {2, 4}},
		"é\té":        {{1, 1}, {1, 2}, {1, 3}, {1, 4}, {1, 5}, {1, 6}},
		"\xff\x00\nx": {{1, 1}, {1, 2}, {1, 3}, {2, 1}, {2, 2}},
	} {
		p := []byte(s)
		check := func(at int, want [2]int) {
			if line, col := Place(p, at); [2]int{line, col} != want {
				t.Errorf("%q at %d: %d, %d, want %v", s, at, line, col, want)
			}
		}
		for at, w := range want {
			check(at, w)
		}
		for _, at := range []int{-1, -2, -1000, math.MinInt} {
			check(at, want[0])
		}
		for _, at := range []int{len(s) + 1, len(s) + 1000, math.MaxInt} {
			check(at, want[len(s)])
		}
		if string(p) != s {
			t.Errorf("what was handed in is %q", p)
		}
	}
	if line, col := Place(nil, 7); line != 1 || col != 1 {
		t.Errorf("of nil: %d, %d", line, col)
	}
	long := []byte(strings.Repeat("ab\n", 100000) + strings.Repeat("c", 100000))
	if line, col := Place(long, len(long)-1); line != 100001 || col != 100000 {
		t.Errorf("of a long text: %d, %d", line, col)
	}
}

// P8.3: a fault: ErrSyntax, at the place, with its line and column, and of no function or statement.
func TestSyntax(t *testing.T) {
	p := []byte("ab\n\ncd")
	for at, want := range [][2]int{{1, 1}, {1, 2}, {1, 3}, {2, 1}, {3, 1}, {3, 2}, {3, 3}} {
		x := Syntax(p, at)
		if x != (api.Fault{Err: api.ErrSyntax, At: at, Line: want[0], Col: want[1], Func: -1, Stmt: -1}) {
			t.Errorf("at %d: %+v", at, x)
		}
	}
	if x := Syntax(nil, 0); x != (api.Fault{Err: api.ErrSyntax, Line: 1, Col: 1, Func: -1, Stmt: -1}) {
		t.Errorf("of nil: %+v", x)
	}
	// Beyond the text the line and the column are those of its beginning or its end, and the place is the one that was told.
	for at, want := range map[int][2]int{-1: {1, 1}, math.MinInt: {1, 1}, 7: {3, 3}, math.MaxInt: {3, 3}} {
		if x := Syntax(p, at); x != (api.Fault{Err: api.ErrSyntax, At: at, Line: want[0], Col: want[1], Func: -1, Stmt: -1}) {
			t.Errorf("at %d: %+v", at, x)
		}
	}
}

// P2: the same is answered again, whatever was asked in between.
func TestSameAgain(t *testing.T) {
	p := []byte("a\n%\"\\x0a\" /* \n */ ; ")
	first := byAll(New(p))
	for range 5 {
		byAll(New([]byte("/*")))
		Quote("a b")
		Place(p, 3)
		if again := byAll(New(p)); !slices.Equal(again, first) || len(again) != 3 {
			t.Errorf("another answer: %+v", again)
		}
		if Quote("a b") != `"a b"` || Syntax(p, 3) != Syntax(p, 3) || !Bare("a") || Bare("a b") {
			t.Error("another answer")
		}
	}
}
