package lexer_test

import (
	"math/big"
	"math/rand"
	"regexp"
	"slices"
	"testing"

	"queuelab/api"
	"queuelab/lexer"
)

// The tokens and gaps of the chapter once more, written in another way than the program has them.
var (
	gapAhead   = regexp.MustCompile(`^(?:[ \t\n]|#[^\n]*)*`)
	tokenAhead = regexp.MustCompile(`^(?:([a-z][a-z0-9_]*)|([0-9]+)|(?:<=|>=|==|!=|[;{}(),+\-*/=<>]))`)
	tokenWhole = regexp.MustCompile(`^(?:[a-z][a-z0-9_]*|[0-9]+|<=|>=|==|!=|[;{}(),+\-*/=<>])$`)
	gapWhole   = regexp.MustCompile(`^(?:[ \t\n]|#[^\n]*(?:\n|$))*$`)
)

// reference is the specification of Lex, step by step.
func reference(source string) ([]api.Token, api.Errno, int) {
	if len(source) > 10000 {
		return nil, api.ErrLimit, 0
	}
	var tokens []api.Token
	for at := 0; ; {
		at += len(gapAhead.FindString(source[at:]))
		if at == len(source) {
			return tokens, api.OK, 0
		}
		token, length, err := referenceToken(source[at:])
		if len(tokens) == 3000 {
			err = api.ErrLimit
		}
		if err != api.OK {
			return nil, err, at
		}
		token.At = at
		tokens = append(tokens, token)
		at += length
	}
}

func referenceToken(rest string) (api.Token, int, api.Errno) {
	part := tokenAhead.FindStringSubmatch(rest)
	switch {
	case part == nil:
		return api.Token{}, 0, api.ErrSyntax
	case len(part[1]) > 12:
		return api.Token{}, 0, api.ErrRange
	case part[1] != "":
		return api.Token{Kind: 1, Text: part[1]}, len(part[0]), api.OK
	case part[2] == "":
		return api.Token{Kind: 3, Text: part[0]}, len(part[0]), api.OK
	case len(part[2]) > 1 && part[2][0] == '0':
		return api.Token{}, 0, api.ErrSyntax
	}
	n, _ := new(big.Int).SetString(part[2], 10)
	if n.Cmp(big.NewInt(1000000000)) > 0 {
		return api.Token{}, 0, api.ErrRange
	}
	return api.Token{Kind: 2, N: int(n.Int64())}, len(part[0]), api.OK
}

func compare(t *testing.T, source string) {
	t.Helper()
	got, err, at := lexer.Lex(source)
	want, wantErr, wantAt := reference(source)
	if !slices.Equal(got, want) || err != wantErr || at != wantAt {
		t.Fatalf("%.60q: %d tokens, %v, %d; want %d tokens, %v, %d", source, len(got), err, at, len(want), wantErr, wantAt)
	}
}

// P1.1, for every byte, and every two bytes, between ordinary tokens.
func TestAllBytes(t *testing.T) {
	for a := range 256 {
		compare(t, string([]byte{byte(a)}))
		for b := range 256 {
			compare(t, string([]byte{byte(a), byte(b)}))
			compare(t, string([]byte{'x', byte(a), byte(b), '='}))
		}
	}
}

// P1.1, for sources of all kinds.
func TestReference(t *testing.T) {
	r := rand.New(rand.NewSource(1))
	for range 3000 {
		compare(t, anySource(r, r.Intn(40), 10))
		compare(t, anyBytes(r, r.Intn(30)))
	}
	for range 30 {
		compare(t, anySource(r, 2000+r.Intn(2500), 3000))
	}
}

// anySource returns so many pieces; one of so many is wrong, none if this is 0.
func anySource(r *rand.Rand, pieces, wrong int) string {
	s := ""
	for range pieces {
		if wrong > 0 && r.Intn(wrong) == 0 {
			s += pick(r, wrongPieces)
		} else {
			s += pick(r, rightPieces)
		}
		// Names and numbers that touch could become others, which may be wrong.
		if wrong == 0 || r.Intn(2) == 0 {
			s += anyGap(r)
		}
	}
	return s
}

var (
	rightPieces = []string{"a", "w_1", "link", "abcdefghijkl", "0", "7", "1000000000", ";", "{", "}", "(", ")", ",", "+", "-", "*", "/", "=", "<", ">", "<=", ">=", "==", "!="}
	wrongPieces = []string{"!", "$", "_", "A", "\r", "\x00", "\x80", "\xff", "\u00e9", "00", "007", "00000000000000000000", "abcdefghijklm", "a0123456789___", "1000000001", "18446744073709551617"}
	gapPieces   = []string{" ", "\t", "\n", "# x\n", "#\n", "# !$007 \xff\x00#\n"}
)

// anyGap returns a gap that is not empty, and whose comments end with a line feed.
func anyGap(r *rand.Rand) string {
	s := pick(r, gapPieces)
	for r.Intn(3) == 0 {
		s += pick(r, gapPieces)
	}
	return s
}

func anyBytes(r *rand.Rand, length int) string {
	b := make([]byte, length)
	for i := range b {
		b[i] = byte(r.Intn(256) >> r.Intn(2))
	}
	return string(b)
}

func pick(r *rand.Rand, from []string) string { return from[r.Intn(len(from))] }
