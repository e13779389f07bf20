package lexer

// class tells bytes apart by what they can begin or continue.
type class uint8

const (
	other    class = iota // only in comments
	blank                 // also the tab
	feed                  // apart from the blanks, as it ends a comment
	sharp                 // begins a comment
	letter                // begins a name
	digit                 // begins a number, continues a name
	under                 // only continues a name
	single                // punctuation that = never continues
	relation              // punctuation by itself, and with = behind it
	bang                  // punctuation only with = behind it
)

// classes ends with the last byte that can be in a token; classOf knows the bytes above it.
var classes = [128]class{
	'\t': blank, '\n': feed, ' ': blank, '#': sharp,
	'a': letter, 'b': letter, 'c': letter, 'd': letter, 'e': letter, 'f': letter, 'g': letter,
	'h': letter, 'i': letter, 'j': letter, 'k': letter, 'l': letter, 'm': letter, 'n': letter,
	'o': letter, 'p': letter, 'q': letter, 'r': letter, 's': letter, 't': letter, 'u': letter,
	'v': letter, 'w': letter, 'x': letter, 'y': letter, 'z': letter, '_': under,
	'0': digit, '1': digit, '2': digit, '3': digit, '4': digit,
	'5': digit, '6': digit, '7': digit, '8': digit, '9': digit,
	';': single, '{': single, '}': single, '(': single, ')': single, ',': single,
	'+': single, '-': single, '*': single, '/': single,
	'=': relation, '<': relation, '>': relation, '!': bang,
}

func classOf(b byte) class {
	if int(b) >= len(classes) {
		return other
	}
	return classes[b]
}
