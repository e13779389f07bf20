package parser

import (
	"queuelab/api"
	"queuelab/lexer"
)

// isName reports whether a text is a name: one that the lexer reads as a name, and that means nothing else.
func isName(text string) bool {
	tokens, _, _ := lexer.Lex(text)
	return len(tokens) == 1 && tokens[0].Kind == api.TokName && tokens[0].Text == text && !isKey(text)
}

func isKey(word string) bool {
	switch word {
	case "link", "rate", "delay", "room", "path", "back", "flow", "program", "paths", "size", "window", "start", "pace",
		"tail", "early", "sojourn", "integral", "deficit", "dual",
		"var", "none", "packets", "bytes", "time",
		"on", "ack", "loss", "mark", "timeout",
		"if", "else", "min", "max", "up":
		return true
	}
	return isInput(word)
}

func isInput(word string) bool {
	switch word {
	case "acked", "rtt", "size", "total":
		return true
	}
	return false
}

// unitWords returns the words of the units, from UnitNone on.
func unitWords() []string { return []string{"none", "packets", "bytes", "time", "rate"} }

// policySize returns how many numbers a policy has.
func policySize(kind int) int {
	sizes := [...]int{api.PolEarly: 3, api.PolSojourn: 2, api.PolIntegral: 3, api.PolDeficit: 1, api.PolDual: 2}
	return sizes[kind]
}
