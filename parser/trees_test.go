package parser_test

import (
	"math/rand"
	"strconv"
	"strings"
	"testing"

	"queuelab/api"
	"queuelab/lexer"
)

func pick[T any](r *rand.Rand, from []T) T { return from[r.Intn(len(from))] }

var (
	unitList     = []string{"none", "packets", "bytes", "time", "rate"}
	eventList    = []string{"ack", "loss", "mark", "timeout", "path"}
	relationList = []string{"", "<", "<=", ">", ">=", "==", "!="}
	policyList   = []string{"", "tail", "early", "sojourn", "integral", "deficit", "dual"}
	policySizes  = []int{0, 0, 3, 2, 3, 1, 2}
	operatorList = []string{"+", "-", "*", "/"}
	functionList = []string{"up", "min", "max"}
	someNames    = []string{"a", "b", "w_1", "links", "min2", "a___________", "z01234567890", "policy", "other"}
	someNumbers  = []int{0, 1, 2, 10, 500, 999999999, 1000000000}
)

func grammarWords() []string {
	return append(strings.Fields("link rate delay room path back flow program paths size window start pace tail early sojourn integral deficit dual var none packets bytes time on ack loss mark timeout if else min max up acked rtt total a w_1 0 7 1000000000"),
		strings.Fields("; { } ( ) , + - * / = < > <= >= == !=")...)
}

// anyTree returns the tree of a source with so many items, without offsets.
func anyTree(r *rand.Rand, items int) api.Node {
	n := api.Node{Kind: api.NodeSource}
	for range items {
		n.Kids = append(n.Kids, anyItem(r))
	}
	return n
}

func anyItem(r *rand.Rand) api.Node {
	n := api.Node{Name: pick(r, someNames)}
	switch r.Intn(6) {
	case 0:
		n.Kind = api.NodeLink
		kind := 1 + r.Intn(6)
		n.Kids = append(anyNumbers(r, 3), api.Node{Kind: api.NodePolicy, N: kind, Kids: anyNumbers(r, policySizes[kind])})
	case 1:
		n.Kind = api.NodePath
		n.Kids = append(anyNames(r, 1+r.Intn(3)), anyNumbers(r, 1)...)
	case 2:
		n.Kind = api.NodeFlow
		n.Kids = append(anyNames(r, 2+r.Intn(3)), anyNumbers(r, 3)...)
	default:
		n.Kind = api.NodeProgram
		n.Kids = anyParts(r)
	}
	return n
}

func anyParts(r *rand.Rand) []api.Node {
	var kids []api.Node
	for range r.Intn(3) {
		kids = append(kids, api.Node{Kind: api.NodeVar, Name: pick(r, someNames), N: r.Intn(5), Kids: anyNumbers(r, 3)})
	}
	for range r.Intn(3) {
		kids = append(kids, api.Node{Kind: api.NodeOn, N: r.Intn(5), Kids: anyStmts(r, 3)})
	}
	for purpose := range 1 + r.Intn(2) {
		kids = append(kids, api.Node{Kind: api.NodeUse, N: purpose, Name: pick(r, someNames)})
	}
	return kids
}

func anyNames(r *rand.Rand, count int) []api.Node {
	var list []api.Node
	for range count {
		list = append(list, api.Node{Kind: api.NodeName, Name: pick(r, someNames)})
	}
	return list
}

func anyNumbers(r *rand.Rand, count int) []api.Node {
	var list []api.Node
	for range count {
		list = append(list, api.Node{Kind: api.NodeNumber, N: pick(r, someNumbers)})
	}
	return list
}

func anyStmts(r *rand.Rand, size int) []api.Node {
	var list []api.Node
	for range r.Intn(size + 1) {
		list = append(list, anyStmt(r, size-1))
	}
	return list
}

func anyStmt(r *rand.Rand, size int) api.Node {
	if r.Intn(3) > 0 {
		return api.Node{Kind: api.NodeAssign, Name: pick(r, someNames), Kids: []api.Node{anyExpr(r, 4)}}
	}
	n := api.Node{Kind: api.NodeIf, N: 1 + r.Intn(6), Kids: []api.Node{anyExpr(r, 2), anyExpr(r, 2)}}
	for range 1 + r.Intn(2) {
		n.Kids = append(n.Kids, api.Node{Kind: api.NodeBlock, Kids: anyStmts(r, size)})
	}
	return n
}

// anyExpr returns an expression of at most so many operations in each other.
func anyExpr(r *rand.Rand, size int) api.Node {
	if size > 0 && r.Intn(3) > 0 {
		return api.Node{Kind: api.NodeAdd + r.Intn(7), Kids: []api.Node{anyExpr(r, size-1), anyExpr(r, size-1)}}
	}
	switch r.Intn(3) {
	case 0:
		return api.Node{Kind: api.NodeName, Name: pick(r, inputs)}
	case 1:
		return api.Node{Kind: api.NodeName, Name: pick(r, someNames)}
	}
	return api.Node{Kind: api.NodeNumber, N: pick(r, someNumbers), Unit: r.Intn(5)}
}

// writer writes trees as texts, as the grammar says; what is not valid it writes in some way.
type writer struct {
	text  strings.Builder
	gap   func() string // what stands between tokens
	extra func() bool   // whether further parentheses stand around an expression
}

// anyText returns a text of a tree, with any gaps and further parentheses, and the tree with the offsets of this text.
func anyText(r *rand.Rand, n api.Node) (string, api.Node) {
	w := writer{gap: func() string { return anyGap(r) }, extra: func() bool { return r.Intn(4) == 0 }}
	n = w.source(n)
	return w.text.String() + anyGap(r), n
}

// plainText returns the text of a tree in which there are no further parentheses.
func plainText(n api.Node) string {
	w := writer{gap: func() string { return " " }, extra: func() bool { return false }}
	w.source(n)
	return w.text.String()
}

func anyGap(r *rand.Rand) string {
	return pick(r, []string{"", "", "", " ", "\t", "\n", "  ", "# x\n", " # } ; {\n\n"})
}

func isDigit(c byte) bool { return c >= '0' && c <= '9' }
func isWord(c byte) bool  { return isDigit(c) || c >= 'a' && c <= 'z' || c == '_' }

// touch reports whether two tokens need a gap between them.
func touch(a, b string) bool {
	if a == "" || b == "" || !isWord(a[len(a)-1]) || !isWord(b[0]) {
		return false
	}
	return !isDigit(a[0]) || isDigit(b[0])
}

// token writes a token, and returns its offset.
func (w *writer) token(text string) int {
	gap, before := w.gap(), w.text.String()
	last := strings.TrimRightFunc(before, func(c rune) bool { return c < 128 && isWord(byte(c)) })
	if gap == "" && touch(before[len(last):], text) {
		gap = " "
	}
	w.text.WriteString(gap)
	at := w.text.Len()
	w.text.WriteString(text)
	return at
}

func (w *writer) number(n api.Node) api.Node {
	n.At = w.token(strconv.Itoa(n.N))
	return n
}

func (w *writer) name(n api.Node) api.Node {
	n.At = w.token(n.Name)
	return n
}

// at returns an element of a list, or something wrong.
func at(list []string, i int) string {
	if i < 0 || i >= len(list) {
		return "!"
	}
	return list[i]
}

// kid returns a node below another one, or a wrong one.
func kid(n api.Node, i int) api.Node {
	if i >= len(n.Kids) {
		return api.Node{}
	}
	return n.Kids[i]
}

func (w *writer) source(n api.Node) api.Node {
	out := api.Node{Kind: n.Kind}
	for _, k := range n.Kids {
		out.Kids = append(out.Kids, w.item(k))
	}
	return out
}

func (w *writer) item(n api.Node) api.Node {
	out := n
	out.At = w.token(at([]string{"", "", "link", "", "path", "flow", "program"}, n.Kind))
	w.token(n.Name)
	out.Kids = nil
	switch n.Kind {
	case api.NodeLink:
		out.Kids = append(w.settings(n, 0, "rate", "delay", "room"), w.policy(kid(n, 3)))
	case api.NodePath:
		out.Kids = append(w.names(n, 0, len(n.Kids)-1), w.settings(n, len(n.Kids)-1, "back")...)
	case api.NodeFlow:
		w.token("program")
		out.Kids = w.names(n, 0, 1)
		w.token("paths")
		out.Kids = append(out.Kids, w.names(n, 1, len(n.Kids)-3)...)
		out.Kids = append(out.Kids, w.settings(n, len(n.Kids)-3, "size", "window", "start")...)
	case api.NodeProgram:
		w.token("{")
		for _, k := range n.Kids {
			out.Kids = append(out.Kids, w.part(k))
		}
		w.token("}")
		return out
	}
	w.token(";")
	return out
}

func (w *writer) names(n api.Node, from, to int) []api.Node {
	var list []api.Node
	for i := from; i < to; i++ {
		list = append(list, w.name(kid(n, i)))
	}
	return list
}

func (w *writer) settings(n api.Node, from int, words ...string) []api.Node {
	var list []api.Node
	for i, x := range words {
		w.token(x)
		list = append(list, w.number(kid(n, max(0, from+i))))
	}
	return list
}

func (w *writer) policy(n api.Node) api.Node {
	out := n
	out.At, out.Kids = w.token(at(policyList, n.N)), nil
	for _, k := range n.Kids {
		out.Kids = append(out.Kids, w.number(k))
	}
	return out
}

func (w *writer) part(n api.Node) api.Node {
	out := n
	out.Kids = nil
	switch n.Kind {
	case api.NodeVar:
		out.At = w.token("var")
		w.token(n.Name)
		w.token(at(unitList, n.N))
		for _, k := range n.Kids {
			out.Kids = append(out.Kids, w.number(k))
		}
		w.token(";")
	case api.NodeOn:
		out.At = w.token("on")
		w.token(at(eventList, n.N))
		out.Kids = w.block(n).Kids
	default:
		out.At = w.token(at([]string{"window", "pace"}, n.N))
		w.token(n.Name)
		w.token(";")
	}
	return out
}

func (w *writer) block(n api.Node) api.Node {
	out := n
	out.At, out.Kids = w.token("{"), nil
	for _, k := range n.Kids {
		out.Kids = append(out.Kids, w.stmt(k))
	}
	w.token("}")
	return out
}

func (w *writer) stmt(n api.Node) api.Node {
	out := n
	if n.Kind == api.NodeAssign {
		out.At = w.token(n.Name)
		w.token("=")
		out.Kids = []api.Node{w.expr(kid(n, 0))}
		w.token(";")
		return out
	}
	out.At = w.token("if")
	out.Kids = []api.Node{w.expr(kid(n, 0))}
	w.token(at(relationList, n.N))
	out.Kids = append(out.Kids, w.expr(kid(n, 1)))
	for i := 2; i < len(n.Kids); i++ {
		if i > 2 {
			w.token("else")
		}
		out.Kids = append(out.Kids, w.block(n.Kids[i]))
	}
	return out
}

func (w *writer) expr(n api.Node) api.Node {
	out, _ := w.operand(n, 0, 1)
	return out
}

// operand writes an expression of a level where only a part of the grammar fits (0: expr, 1: term, 2: factor); it returns the offset of its first token as well.
func (w *writer) operand(n api.Node, fits, level int) (api.Node, int) {
	own := fitting(n)
	if own < fits || w.extra() && level+1+levels(n) <= 12 {
		first := w.token("(")
		out, _ := w.operand(n, 0, level+1)
		w.token(")")
		return out, first
	}
	out := n
	switch {
	case n.Kind == api.NodeNumber:
		out = w.number(n)
		if n.Unit != 0 {
			w.token(at(unitList, n.Unit))
		}
	case n.Kind == api.NodeName:
		out = w.name(n)
	case n.Kind >= api.NodeAdd && n.Kind <= api.NodeDiv:
		left, first := w.operand(kid(n, 0), own, level)
		w.token(operatorList[n.Kind-api.NodeAdd])
		right, _ := w.operand(kid(n, 1), own+1, level)
		out.At, out.Kids = first, []api.Node{left, right}
	case n.Kind < api.NodeUp || n.Kind > api.NodeMax:
		out.At = w.token("!")
	default:
		out.At = w.token(functionList[n.Kind-api.NodeUp])
		w.token("(")
		left, _ := w.operand(kid(n, 0), 0, level+1)
		w.token(",")
		right, _ := w.operand(kid(n, 1), 0, level+1)
		w.token(")")
		out.Kids = []api.Node{left, right}
	}
	return out, out.At
}

// fitting says which part of the grammar an expression is without parentheses.
func fitting(n api.Node) int {
	switch n.Kind {
	case api.NodeAdd, api.NodeSub:
		return 0
	case api.NodeMul, api.NodeDiv:
		return 1
	}
	return 2
}

// levels returns how many levels there are in an expression below its own one.
func levels(n api.Node) int {
	most := 0
	for i, k := range n.Kids {
		below := levels(k)
		if n.Kind >= api.NodeUp || fitting(k) < fitting(n)+i {
			below++
		}
		most = max(most, below)
	}
	return most
}

// tokensOf returns the texts of the tokens of a source.
func tokensOf(t *testing.T, source string) []string {
	t.Helper()
	tokens, err, _ := lexer.Lex(source)
	if err != api.OK {
		t.Fatalf("%q: %v", source, err)
	}
	var list []string
	for _, x := range tokens {
		if x.Kind == api.TokNumber {
			x.Text = strconv.Itoa(x.N)
		}
		list = append(list, x.Text)
	}
	return list
}

// spaced returns tokens with any gaps before, between and after them.
func spaced(r *rand.Rand, tokens []string) string {
	w := writer{gap: func() string { return " " + anyGap(r) }}
	for _, x := range tokens {
		w.token(x)
	}
	return w.text.String() + anyGap(r)
}

// changed returns tokens of which one is left out, twice there, replaced, or put elsewhere, or before which there is another one.
func changed(r *rand.Rand, tokens []string) []string {
	if len(tokens) == 0 {
		return []string{pick(r, grammarWords())}
	}
	i, k := r.Intn(len(tokens)), r.Intn(len(tokens))
	out := append([]string{}, tokens[:i]...)
	switch r.Intn(5) {
	case 0:
		return append(out, tokens[i+1:]...)
	case 1:
		return append(append(out, tokens[i]), tokens[i:]...)
	case 2:
		return append(append(out, pick(r, grammarWords())), tokens[i+1:]...)
	case 3:
		return append(append(out, pick(r, grammarWords())), tokens[i:]...)
	}
	out = append(out, tokens[i:]...)
	out[i], out[k] = out[k], out[i]
	return out
}
