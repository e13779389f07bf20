package lexer_test

import (
	"math/rand"
	"slices"
	"strconv"
	"strings"
	"testing"

	"queuelab/api"
	"queuelab/lexer"
)

// textOf returns what a token without an error was written as.
func textOf(x api.Token) string {
	if x.Kind == api.TokNumber {
		return strconv.Itoa(x.N)
	}
	return x.Text
}

// moved returns tokens with other offsets: those from an offset on are some bytes later.
func moved(tokens []api.Token, from, by int) []api.Token {
	tokens = slices.Clone(tokens)
	for i := range tokens {
		if tokens[i].At >= from {
			tokens[i].At += by
		}
	}
	return tokens
}

// tight puts pieces together without the gaps that are not needed, so that many tokens touch.
func tight(r *rand.Rand) string {
	for {
		s := anySource(r, r.Intn(30), 0)
		s = strings.ReplaceAll(s, " ", "")
		if _, err, _ := lexer.Lex(s); err == api.OK {
			return s
		}
	}
}

// rightSources calls f with sources that have no error.
func rightSources(t *testing.T, f func(r *rand.Rand, source string, tokens []api.Token)) {
	r := rand.New(rand.NewSource(2))
	for range 1000 {
		for _, source := range []string{anySource(r, r.Intn(30), 0), tight(r), tight(r) + "# the end"} {
			tokens, err, at := lexer.Lex(source)
			if err != api.OK || at != 0 {
				t.Fatalf("%q: %v, %d", source, err, at)
			}
			f(r, source, tokens)
		}
	}
}

// P1.2.
func TestCover(t *testing.T) {
	rightSources(t, func(r *rand.Rand, source string, tokens []api.Token) {
		end := 0
		for _, x := range tokens {
			text := textOf(x)
			if x.At < end || !gapWhole.MatchString(source[end:x.At]) || !strings.HasPrefix(source[x.At:], text) {
				t.Fatalf("%q: %v", source, x)
			}
			end = x.At + len(text)
		}
		if !gapWhole.MatchString(source[end:]) {
			t.Fatalf("%q: a token is missing at the end", source)
		}
	})
}

// P1.3, without an error.
func TestInsertedGap(t *testing.T) {
	rightSources(t, func(r *rand.Rand, source string, tokens []api.Token) {
		gap := anyGap(r)
		expectTokens(t, source+gap, tokens...)
		if len(tokens) > 0 {
			at := tokens[r.Intn(len(tokens))].At
			expectTokens(t, source[:at]+gap+source[at:], moved(tokens, at, len(gap))...)
		}
	})
}

// P1.4.
func TestJoining(t *testing.T) {
	last, lastTokens := "", []api.Token(nil)
	rightSources(t, func(r *rand.Rand, source string, tokens []api.Token) {
		both := slices.Concat(lastTokens, moved(tokens, 0, len(last)+1))
		expectTokens(t, last+"\n"+source, both...)
		last, lastTokens = source, tokens
	})
}

// P1.5.
func TestWriting(t *testing.T) {
	rightSources(t, func(r *rand.Rand, source string, tokens []api.Token) {
		var text strings.Builder
		var want []api.Token
		for _, x := range tokens {
			x.At = text.Len()
			want = append(want, x)
			text.WriteString(textOf(x) + " ")
		}
		expectTokens(t, text.String(), want...)
	})
}

// P1.7.
func TestLongest(t *testing.T) {
	rightSources(t, func(r *rand.Rand, source string, tokens []api.Token) {
		for _, x := range tokens {
			text := textOf(x)
			if end := x.At + len(text); end < len(source) && tokenWhole.MatchString(source[x.At:end+1]) {
				t.Fatalf("%q: %v could be longer", source, x)
			}
		}
	})
}

// P1.6, and P1.3 with an error.
func TestSourcesWithErrors(t *testing.T) {
	r := rand.New(rand.NewSource(3))
	for range 3000 {
		before, wrong := tight(r)+anyGap(r), pick(r, wrongPieces)
		source := before + wrong
		got, err, at := lexer.Lex(source)
		if len(got) != 0 || err == api.OK || at != len(before) {
			t.Fatalf("%q: %d tokens, %v, %d", source, len(got), err, at)
		}
		tokens, none, zero := lexer.Lex(source[:at])
		if none != api.OK || zero != 0 {
			t.Fatalf("%q: %v before the error", source, none)
		}
		for _, after := range []string{" ", "\n;", anyGap(r) + anySource(r, 20, 5), "\n" + anyBytes(r, 20)} {
			expectError(t, source+after, err, at)
		}
		gap := anyGap(r)
		expectError(t, before+gap+wrong, err, at+len(gap))
		if len(tokens) > 0 {
			place := tokens[r.Intn(len(tokens))].At
			expectError(t, source[:place]+gap+source[place:], err, at+len(gap))
		}
	}
}

// P1.6, for a limit: the tokens before the one that is too many have no error.
func TestBeforeTheLimit(t *testing.T) {
	r := rand.New(rand.NewSource(4))
	for range 20 {
		source := strings.Repeat("a1 <=", 1500) + anyGap(r)
		for _, after := range []string{"a", ";;", "! b", "007 x"} {
			expectError(t, source+after, api.ErrLimit, len(source))
		}
		expectCount(t, source, 3000)
	}
}
