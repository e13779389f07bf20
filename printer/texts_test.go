package printer_test

import (
	"math/rand"
	"strconv"
	"strings"
	"testing"

	"queuelab/api"
	"queuelab/lexer"
)

func pick[T any](r *rand.Rand, from ...T) T { return from[r.Intn(len(from))] }

// maker makes texts by the grammar. They are canonical, but for some marks: [ and ] stand around each expression, and @ behind each number without a unit that could have one.
type maker struct{ *rand.Rand }

func (m maker) name() string {
	return pick(m.Rand, "a", "b", "w_1", "links", "min2", "z01234567890", "a___________", "policy")
}

func (m maker) number() string {
	return pick(m.Rand, "0", "1", "2", "10", "999999999", "1000000000")
}

// row returns so many words of a kind, each behind a blank.
func row(count int, word func() string) string {
	text := ""
	for range count {
		text += " " + word()
	}
	return text
}

func (m maker) source(items int) string {
	text := ""
	for range items {
		text += m.item()
	}
	return text
}

func (m maker) item() string {
	switch m.Intn(6) {
	case 0:
		policy := pick(m.Rand, "tail", "early"+row(3, m.number), "sojourn"+row(2, m.number), "integral"+row(3, m.number), "deficit"+row(1, m.number), "dual"+row(2, m.number))
		return "link " + m.name() + " rate " + m.number() + " delay " + m.number() + " room " + m.number() + " " + policy + ";\n"
	case 1:
		return "path " + m.name() + row(1+m.Intn(4), m.name) + " back " + m.number() + ";\n"
	case 2:
		return "flow " + m.name() + " program " + m.name() + " paths" + row(1+m.Intn(4), m.name) + " size " + m.number() + " window " + m.number() + " start " + m.number() + ";\n"
	}
	text := "program " + m.name() + " {\n"
	for range m.Intn(3) {
		text += "  var " + m.name() + " " + pick(m.Rand, "none", "packets", "bytes", "time", "rate") + row(3, m.number) + ";\n"
	}
	for range m.Intn(4) {
		text += "  on " + pick(m.Rand, "ack", "loss", "mark", "timeout", "path") + " {\n" + m.stmts("    ", 3) + "  }\n"
	}
	return text + "  window " + m.name() + ";\n" + pick(m.Rand, "", "  pace "+m.name()+";\n") + "}\n"
}

// stmts returns at most so many statements, on lines with a margin, and fewer below them.
func (m maker) stmts(margin string, size int) string {
	text := ""
	for range m.Intn(size + 1) {
		if m.Intn(3) > 0 {
			text += margin + m.name() + " = " + m.expr(0, 3) + ";\n"
			continue
		}
		text += margin + "if " + m.expr(0, 2) + " " + pick(m.Rand, "<", "<=", ">", ">=", "==", "!=") + " " + m.expr(0, 2) + " {\n" + m.stmts(margin+"  ", size-1)
		if m.Intn(2) == 0 {
			text += margin + "} else {\n" + m.stmts(margin+"  ", size-1)
		}
		text += margin + "}\n"
	}
	return text
}

// expr returns an expression, with at most so many operations in each other, where only a part of the grammar fits: 0 expr, 1 term, 2 factor. Its operands are parts of the grammar, too: those before operators are as coarse as it is, those behind them finer.
func (m maker) expr(fits, size int) string {
	own, text := 2, ""
	if size == 0 || m.Intn(4) == 0 {
		text = pick(m.Rand, m.name(), m.number()+"@", m.number()+pick(m.Rand, " packets", " bytes", " time", " rate"), pick(m.Rand, "acked", "rtt", "size", "total"))
	} else {
		own = m.Intn(3)
		switch own {
		case 0:
			text = m.expr(0, size-1) + pick(m.Rand, " + ", " - ") + m.expr(1, size-1)
		case 1:
			text = m.expr(1, size-1) + pick(m.Rand, " * ", " / ") + m.expr(2, size-1)
		default:
			text = pick(m.Rand, "min(", "max(", "up(") + m.expr(0, size-1) + ", " + m.expr(0, size-1) + ")"
		}
	}
	text = "[" + text + "]"
	if own < fits {
		text = "(" + text + ")"
	}
	return text
}

// canonical returns a text without its marks.
func canonical(marked string) string {
	return strings.NewReplacer("[", "", "]", "", "@", "").Replace(marked)
}

// other returns another text of the same tree: with further parentheses and units at the marks, and with other gaps.
func (m maker) other(t *testing.T, marked string) string {
	text, closing := "", []string{}
	for _, c := range marked {
		switch c {
		case '[':
			pair := pick(m.Rand, "", "", "()")
			closing = append(closing, pair[len(pair)/2:])
			text += pair[:len(pair)/2]
		case ']':
			text += closing[len(closing)-1]
			closing = closing[:len(closing)-1]
		case '@':
			text += pick(m.Rand, "", " none")
		default:
			text += string(c)
		}
	}
	return m.spaced(t, text)
}

// spaced returns a text with any gaps between its tokens.
func (m maker) spaced(t *testing.T, text string) string {
	out := ""
	for _, x := range tokensOf(t, text) {
		gap := pick(m.Rand, "", "", " ", "\n", "\t ", "# x } ; {\n", " \n\n")
		if gap == "" && out != "" && isWord(out[len(out)-1]) && isWord(x[0]) {
			gap = " "
		}
		out += gap + x
	}
	return out + pick(m.Rand, "", "\n", "# end")
}

func isWord(c byte) bool {
	return c >= 'a' && c <= 'z' || c >= '0' && c <= '9' || c == '_'
}

// tokensOf returns the texts of the tokens of a source.
func tokensOf(t *testing.T, source string) []string {
	t.Helper()
	tokens, err, _ := lexer.Lex(source)
	if err != api.OK {
		t.Fatalf("%q: %v", source, err)
	}
	var list []string
	for _, x := range tokens {
		if x.Kind == api.TokNumber {
			x.Text = strconv.Itoa(x.N)
		}
		list = append(list, x.Text)
	}
	return list
}

// manyTexts calls f with marked texts of some items, which are no longer than a source may be.
func manyTexts(seed int64, f func(m maker, marked string)) {
	m := maker{rand.New(rand.NewSource(seed))}
	for range 1000 {
		if marked := m.source(m.Intn(5)); len(canonical(marked)) <= api.MaxSource {
			f(m, marked)
		}
	}
}
