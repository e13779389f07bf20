package lexer_test

import (
	"slices"
	"strings"
	"testing"

	"queuelab/api"
	"queuelab/lexer"
)

func name(text string, at int) api.Token  { return api.Token{Kind: api.TokName, Text: text, At: at} }
func number(n, at int) api.Token          { return api.Token{Kind: api.TokNumber, N: n, At: at} }
func punct(text string, at int) api.Token { return api.Token{Kind: api.TokPunct, Text: text, At: at} }

func expectTokens(t *testing.T, source string, want ...api.Token) {
	t.Helper()
	if got, err, at := lexer.Lex(source); !slices.Equal(got, want) || err != api.OK || at != 0 {
		t.Errorf("%.40q: %v, %v, %d; want %v", source, got, err, at, want)
	}
}

func expectCount(t *testing.T, source string, want int) {
	t.Helper()
	if got, err, at := lexer.Lex(source); len(got) != want || err != api.OK || at != 0 {
		t.Errorf("%.40q: %d tokens, %v, %d; want %d tokens", source, len(got), err, at, want)
	}
}

func expectError(t *testing.T, source string, want api.Errno, place int) {
	t.Helper()
	if got, err, at := lexer.Lex(source); len(got) != 0 || err != want || at != place {
		t.Errorf("%.40q: %d tokens, %v, %d; want %v, %d", source, len(got), err, at, want, place)
	}
}

// P1.1, and the section Examples.
func TestExamples(t *testing.T) {
	expectTokens(t, "w<=3;# x", name("w", 0), punct("<=", 1), number(3, 3), punct(";", 4))
	expectTokens(t, "a==!=b", name("a", 0), punct("==", 1), punct("!=", 3), name("b", 5))
	expectError(t, "a ! b", api.ErrSyntax, 2)
	expectError(t, "x 007", api.ErrSyntax, 2)
	expectError(t, "x 1000000001", api.ErrRange, 2)
}

// P1.1: gaps.
func TestGaps(t *testing.T) {
	for _, gap := range []string{"", " ", "\t", "\n", "\t \n\t", "#\n", "# x\n", "## !$007\n#\n", "# \xff\x00\r\u00e9\n\n", " # a\n\t# b\n"} {
		expectTokens(t, gap)
		expectTokens(t, gap+"a", name("a", len(gap)))
		expectTokens(t, "a"+gap, name("a", 0))
		expectTokens(t, "a "+gap+"3", name("a", 0), number(3, 2+len(gap)))
	}
	expectTokens(t, "#")
	expectTokens(t, "a#b", name("a", 0))
	expectTokens(t, "# a\nb", name("b", 4))
	expectTokens(t, "a#b\n3", name("a", 0), number(3, 4))
	expectTokens(t, "<# =\n=", punct("<", 0), punct("=", 5))
	for _, wrong := range []string{"\r", "\v", "\f", "\x00", "\u00a0"} {
		expectError(t, "a "+wrong+" b", api.ErrSyntax, 2)
	}
}

// P1.1: names.
func TestNames(t *testing.T) {
	for _, text := range []string{"a", "z", "az", "a0", "z9", "a_", "a__b", "link", "abcdefghijkl", "a_0123456789"} {
		expectTokens(t, text, name(text, 0))
	}
	expectTokens(t, "a b", name("a", 0), name("b", 2))
	expectTokens(t, "12ab", number(12, 0), name("ab", 2))
	expectError(t, "aB", api.ErrSyntax, 1)
	expectError(t, "_a", api.ErrSyntax, 0)
	expectError(t, "A", api.ErrSyntax, 0)
	expectError(t, "\u00e9", api.ErrSyntax, 0)
	expectError(t, "abcdefghijklm", api.ErrRange, 0)
	expectError(t, "  a_01234567890;", api.ErrRange, 2)
	expectError(t, ";"+strings.Repeat("a", 9999), api.ErrRange, 1)
}

// P1.1: numbers.
func TestNumbers(t *testing.T) {
	expectTokens(t, "0", number(0, 0))
	expectTokens(t, "0 1 9 10 90", number(0, 0), number(1, 2), number(9, 4), number(10, 6), number(90, 9))
	expectTokens(t, "999999999 1000000000", number(999999999, 0), number(1000000000, 10))
	expectTokens(t, "0a", number(0, 0), name("a", 1))
	expectTokens(t, "-5", punct("-", 0), number(5, 1))
	expectError(t, "00", api.ErrSyntax, 0)
	expectError(t, "01", api.ErrSyntax, 0)
	expectError(t, "1 00000000001", api.ErrSyntax, 2)
	expectError(t, "1000000001", api.ErrRange, 0)
	expectError(t, "9999999999", api.ErrRange, 0)
	expectError(t, "10000000000", api.ErrRange, 0)
	// The values of these are small again in 64 bits.
	expectError(t, "18446744073709551617", api.ErrRange, 0)
	expectError(t, "36893488147419103232", api.ErrRange, 0)
	expectError(t, "1"+strings.Repeat("0", 9999), api.ErrRange, 0)
	expectError(t, strings.Repeat("0", 10000), api.ErrSyntax, 0)
}

// P1.1: punctuation.
func TestPunctuation(t *testing.T) {
	for _, text := range []string{";", "{", "}", "(", ")", ",", "+", "-", "*", "/", "=", "<", ">", "<=", ">=", "==", "!="} {
		expectTokens(t, text, punct(text, 0))
		expectTokens(t, "a"+text+"b", name("a", 0), punct(text, 1), name("b", 1+len(text)))
		expectTokens(t, text+" =", punct(text, 0), punct("=", len(text)+1))
	}
	expectTokens(t, ";=", punct(";", 0), punct("=", 1))
	expectTokens(t, "===", punct("==", 0), punct("=", 2))
	expectTokens(t, "!==", punct("!=", 0), punct("=", 2))
	expectTokens(t, "<>=", punct("<", 0), punct(">=", 1))
	expectTokens(t, "=<", punct("=", 0), punct("<", 1))
	expectError(t, "!", api.ErrSyntax, 0)
	expectError(t, "! =", api.ErrSyntax, 0)
	expectError(t, "!!=", api.ErrSyntax, 0)
	expectError(t, "=!", api.ErrSyntax, 1)
	expectError(t, "a&b", api.ErrSyntax, 1)
}

// P1.1: the limits of bytes and of tokens.
func TestLimits(t *testing.T) {
	expectCount(t, strings.Repeat(" ", 10000), 0)
	expectCount(t, strings.Repeat("#", 9999)+"\n", 0)
	expectCount(t, strings.Repeat(" ", 9999)+"a", 1)
	expectError(t, strings.Repeat(" ", 10001), api.ErrLimit, 0)
	expectError(t, " !"+strings.Repeat(" ", 9999), api.ErrLimit, 0)
	expectError(t, " "+strings.Repeat(";", 10000), api.ErrLimit, 0)

	full := strings.Repeat("a ;", 1500)
	expectCount(t, full, 3000)
	expectCount(t, full+" \t\n# end", 3000)
	expectCount(t, full+"# end\n", 3000)
	expectError(t, full+"a", api.ErrLimit, 4500)
	expectError(t, full+" # x\n \tb c", api.ErrLimit, 4507)
	expectError(t, full+full, api.ErrLimit, 4500)
}

// P1 and P1.1: of several errors the first one is returned; at one offset, the one that is named first.
func TestOrderOfErrors(t *testing.T) {
	wrong := []struct {
		text string
		err  api.Errno
	}{
		{"!", api.ErrSyntax}, {"$", api.ErrSyntax}, {"007", api.ErrSyntax}, {"00000000000000000000", api.ErrSyntax},
		{"abcdefghijklm", api.ErrRange}, {"1000000001", api.ErrRange},
	}
	full := strings.Repeat(";", 3000)
	for _, first := range wrong {
		for _, second := range wrong {
			expectError(t, "a "+first.text+" "+second.text, first.err, 2)
		}
		expectError(t, full[1:]+first.text, first.err, 2999)
		expectError(t, full[1:]+first.text+full, first.err, 2999)
		expectError(t, full+" "+first.text, api.ErrLimit, 3001)
		expectError(t, first.text+strings.Repeat(" ", 10000), api.ErrLimit, 0)
	}
}
