package parser_test

import (
	"math/rand"
	"regexp"
	"slices"
	"strings"
	"testing"

	"queuelab/api"
	"queuelab/lexer"
	"queuelab/parser"
)

// grammarText is the grammar of the chapter, as it stands there; the diagnostics of Parse are compared with what it says.
const grammarText = `
    source  = { item }
    item    = "link" name "rate" number "delay" number "room" number policy ";"
            | "path" name name { name } "back" number ";"
            | "flow" name "program" name "paths" name { name }
              "size" number "window" number "start" number ";"
            | "program" name "{" { var } { handler } "window" name ";" [ "pace" name ";" ] "}"
    policy  = "tail" | "early" number number number | "sojourn" number number
            | "integral" number number number | "deficit" number | "dual" number number
    var     = "var" name unit number number number ";"
    unit    = "none" | "packets" | "bytes" | "time" | "rate"
    handler = "on" event "{" { stmt } "}"
    event   = "ack" | "loss" | "mark" | "timeout" | "path"
    stmt    = name "=" expr ";"
            | "if" expr rel expr block [ "else" block ]
    block   = "{" { stmt } "}"
    rel     = "<" | "<=" | ">" | ">=" | "==" | "!="
    expr    = term { ( "+" | "-" ) term }
    term    = factor { ( "*" | "/" ) factor }
    factor  = number [ unit ] | name | input
            | ( "min" | "max" | "up" ) "(" expr "," expr ")" | "(" expr ")"
`

// part is a part of the grammar: a text, a reference, or one of the forms; parts are ordered.
type part struct {
	form  string // text, rule, sequence, choice, many, maybe
	text  string
	parts []*part
}

// grammar has the rules by their names, and the key words.
type grammar struct {
	rules map[string]*part
	keys  map[string]bool
}

var (
	grammarWord = regexp.MustCompile(`"[^"]*"|[a-z]+|[|={}\[\]()]`)
	inputs      = []string{"acked", "rtt", "size", "total"}
)

func readGrammar() grammar {
	words := grammarWord.FindAllString(grammarText, -1)
	g := grammar{rules: map[string]*part{}, keys: map[string]bool{}}
	for _, input := range inputs {
		g.keys[input] = true
	}
	for _, w := range words {
		if w[0] == '"' && w[1] >= 'a' && w[1] <= 'z' {
			g.keys[strings.Trim(w, `"`)] = true
		}
	}
	for len(words) > 0 {
		name := words[0]
		words = words[2:]
		g.rules[name], words = readChoice(words)
	}
	return g
}

func readChoice(words []string) (*part, []string) {
	choice, row := &part{form: "choice"}, &part{form: "sequence"}
	closing := map[string]string{"{": "many", "[": "maybe", "(": "sequence"}
	for len(words) > 0 && !strings.Contains("}])", words[0]) && !(len(words) > 1 && words[1] == "=") {
		w := words[0]
		words = words[1:]
		switch {
		case w == "|":
			choice.parts, row = append(choice.parts, row), &part{form: "sequence"}
		case closing[w] != "":
			var inner *part
			inner, words = readChoice(words)
			words = words[1:]
			row.parts = append(row.parts, &part{form: closing[w], parts: []*part{inner}})
		case w[0] == '"':
			row.parts = append(row.parts, &part{form: "text", text: strings.Trim(w, `"`)})
		default:
			row.parts = append(row.parts, &part{form: "rule", text: w})
		}
	}
	choice.parts = append(choice.parts, row)
	return choice, words
}

// stack is what is still expected, with the levels of the statement and the expression in which it is.
type stack struct {
	top        *part
	stmt, expr int
	rest       *stack
}

func (s *stack) push(list []*part, stmt, expr int) *stack {
	for _, p := range slices.Backward(list) {
		s = &stack{p, stmt, expr, s}
	}
	return s
}

// expand calls f with each part that can come next: a text, or the name of a kind of tokens, and what is expected then; deep says that it begins what has too high a level. At the end of the item it calls f with nil.
func (g grammar) expand(s *stack, deep bool, f func(next *part, rest *stack, deep bool)) {
	if s == nil {
		f(nil, nil, deep)
		return
	}
	p, rule := s.top, g.rules[s.top.text]
	switch {
	case p.form == "text" || p.form == "rule" && rule == nil:
		f(p, s.rest, deep)
	case p.form == "rule":
		stmt, expr := s.stmt, s.expr
		if p.text == "stmt" {
			stmt, expr = stmt+1, 0
		} else if p.text == "expr" {
			expr++
		}
		g.expand(s.rest.push([]*part{rule}, stmt, expr), deep || stmt > 12 || expr > 12, f)
	case p.form == "sequence":
		g.expand(s.rest.push(p.parts, s.stmt, s.expr), deep, f)
	case p.form == "choice":
		for _, x := range p.parts {
			g.expand(s.rest.push([]*part{x}, s.stmt, s.expr), deep, f)
		}
	case p.form == "maybe":
		g.expand(s.rest, deep, f)
		g.expand(s.rest.push(p.parts, s.stmt, s.expr), deep, f)
	case p.form == "many":
		g.expand(s.rest, deep, f)
		g.expand(s.push(p.parts, s.stmt, s.expr), deep, f)
	}
}

func (g grammar) matches(p *part, x api.Token) bool {
	if p.form == "text" {
		return x.Text == p.text
	}
	switch p.text {
	case "name":
		return x.Kind == api.TokName && !g.keys[x.Text]
	case "number":
		return x.Kind == api.TokNumber
	case "input":
		return slices.Contains(inputs, x.Text)
	}
	panic("the grammar does not say what this is: " + p.text)
}

// step reads a token: what is expected then, and whether it began something too deep, or ended the item.
func (g grammar) step(stacks []*stack, x api.Token) (after []*stack, deep, end bool) {
	for _, s := range stacks {
		g.expand(s, false, func(next *part, rest *stack, over bool) {
			if next != nil && g.matches(next, x) {
				after = append(after, rest)
				deep = deep || over
				end = end || rest == nil
			}
		})
	}
	return after, deep, end
}

// item reads an item, and returns how many tokens it has up to its end, or its error, and what this is (OK, if there is none).
func (g grammar) item(tokens []api.Token) (int, api.Errno) {
	stacks := []*stack{{top: &part{form: "rule", text: "item"}}}
	for i, x := range tokens {
		after, deep, end := g.step(stacks, x)
		switch {
		case len(after) == 0:
			return i, api.ErrSyntax
		case deep:
			return i, api.ErrLimit
		case end:
			return i + 1, api.OK
		}
		stacks = after
	}
	return len(tokens), api.ErrSyntax
}

// behind returns how many tokens of an item with an error at a token are left out, from the first one on.
func behind(tokens []api.Token, wrong int) int {
	var open []int
	for i, x := range tokens {
		if i >= wrong && x.Text == ";" && len(open) == 0 {
			return i + 1
		}
		if x.Text == "{" {
			open = append(open, i)
		}
		if x.Text == "}" {
			if i >= wrong && len(open) <= 1 {
				return i + 1
			}
			if len(open) > 0 {
				open = open[:len(open)-1]
			}
		}
	}
	return len(tokens)
}

// diags returns the diagnostics of a source that has not too many nodes.
func (g grammar) diags(source string) []api.Diag {
	tokens, err, at := lexer.Lex(source)
	if err != api.OK {
		return []api.Diag{{Err: err, At: at}}
	}
	var list []api.Diag
	for len(tokens) > 0 && len(list) < 20 {
		length, err := g.item(tokens)
		if err != api.OK {
			at := len(source)
			if length < len(tokens) {
				at = tokens[length].At
			}
			list = append(list, api.Diag{Err: err, At: at})
			length = behind(tokens, length)
		}
		tokens = tokens[length:]
	}
	return list
}

func (g grammar) compare(t *testing.T, source string) []api.Diag {
	t.Helper()
	want := g.diags(source)
	n, got := parser.Parse(source)
	if !slices.Equal(got, want) {
		t.Fatalf("%q: %v; want %v", source, got, want)
	}
	if (n.Kind == 0) != (len(want) > 0) || len(want) > 0 && !same(n, api.Node{}) {
		t.Fatalf("%q: %d diagnostics, and the node %v", source, len(want), n)
	}
	return got
}

// P2.1: the diagnostics are those of the grammar, for sources in which some tokens are wrong, missing, or too many.
func TestChangedSources(t *testing.T) {
	g, r := readGrammar(), rand.New(rand.NewSource(1))
	count := map[int]int{}
	for range 4000 {
		source, _ := anyText(r, anyTree(r, r.Intn(6)))
		tokens := tokensOf(t, source)
		for range r.Intn(5) {
			tokens = changed(r, tokens)
		}
		count[len(g.compare(t, spaced(r, tokens)))]++
	}
	for k := range 4 {
		if count[k] < 100 {
			t.Errorf("only %d of the sources have %d diagnostics", count[k], k)
		}
	}
}

// P1 and P2.1: the same for any tokens and any bytes.
func TestAnyTokens(t *testing.T) {
	g, r := readGrammar(), rand.New(rand.NewSource(2))
	words := grammarWords()
	for range 4000 {
		var tokens []string
		for range r.Intn(40) {
			tokens = append(tokens, pick(r, words))
		}
		g.compare(t, spaced(r, tokens))
		g.compare(t, inHandler(spaced(r, tokens)))
		g.compare(t, "program c {"+spaced(r, tokens)+" } path p a back 1;")
		bytes := make([]byte, r.Intn(20))
		for i := range bytes {
			bytes[i] = byte(r.Intn(256) >> r.Intn(2))
		}
		g.compare(t, string(bytes))
	}
}

// P2.1: a wrong token at each place of sources, and the end of the source there.
func TestEveryPlace(t *testing.T) {
	g := readGrammar()
	for _, source := range []string{
		"link l rate 1 delay 2 room 3 tail; link l rate 1 delay 2 room 3 early 4 5 6;",
		"path p a b back 1; flow f program c paths p q size 1 window 2 start 3; path q a back 2;",
		"program c { var x packets 1 2 3; var y none 1 2 3; on ack { } on path { x = 1; } window x; pace y; } path p a back 1;",
		"program c { on ack { x = a + 1 rate * (rtt - min(2, y) / 3); y = 1; } window x; }",
		"program c { on ack { if a < 1 { x = 1; } else { if b == 1 time { } } if a > b { } } on loss { } window x; }",
	} {
		tokens := tokensOf(t, source)
		for i := range tokens {
			g.compare(t, strings.Join(tokens[:i], " "))
			for _, x := range grammarWords() {
				g.compare(t, strings.Join(slices.Concat(tokens[:i], []string{x}, tokens[i+1:]), " "))
				g.compare(t, strings.Join(slices.Concat(tokens[:i], []string{x}, tokens[i:]), " "))
			}
		}
	}
}

// P2.1 and P2.9: the same for sources with many levels.
func TestManyLevels(t *testing.T) {
	g, r := readGrammar(), rand.New(rand.NewSource(4))
	count := map[api.Errno]int{}
	for range 3000 {
		tokens := strings.Fields(tower(r))
		if r.Intn(2) == 0 {
			tokens = changed(r, tokens)
		}
		for _, d := range g.compare(t, inHandler(spaced(r, tokens))+" path p") {
			count[d.Err]++
		}
	}
	if count[api.ErrLimit] < 500 || count[api.ErrSyntax] < 500 {
		t.Errorf("%v", count)
	}
}

// tower returns a statement with about 12 levels of statements and of expressions.
func tower(r *rand.Rand) string {
	expr := "E"
	for range 8 + r.Intn(6) {
		around := pick(r, []string{"( E )", "min ( E , 1 )", "max ( 1 , E )", "up ( 1 , E ) + 2", "( E ) * 2", "b - ( E )"})
		expr = strings.Replace(expr, "E", around, 1)
	}
	stmt := pick(r, []string{"x = X ;", "if X < 1 { }", "if 1 < X { }", ""})
	expr = strings.Replace(expr, "E", pick(r, []string{"1", "a * 2", "rtt"}), 1)
	stmt = strings.Replace(stmt, "X", expr, 1)
	for range 8 + r.Intn(6) {
		stmt = pick(r, []string{"if a < b { ", "y = 1 ; if a < b { ", "if a < b { } else { ", "if a < b { x = 1 ; } else { "}) + stmt + " }"
	}
	return stmt
}
