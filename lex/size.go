package lex

import (
	"strings"

	"whittle/api"
)

// size is how many bytes the token of that kind has that s begins with; 0, if none does so.
func size(kind int, s string) int {
	switch kind {
	case api.TokNumber:
		return numberSize(s)
	case api.TokText:
		return textSize(s)
	case api.TokWord:
		// No word begins with a digit: the numbers are asked for ahead of the words.
		return run(s, isOfWord)
	case api.TokFault:
		return nameSize(s, "#DIV/0!", "#VALUE!", "#REF!", "#NUM!", "#N/A", "#CIRCLE!", "#LONG!", "#ARG!")
	case api.TokMark:
		// Those of two bytes stand ahead of those that they begin with.
		return nameSize(s, "<>", "<=", ">=", "+", "-", "*", "/", "^", "&", "%", "(", ")", ",", ":", "!", "=", "<", ">")
	}
	return 0
}

func numberSize(s string) int {
	n := run(s, isDigit)
	if n == 0 || !strings.HasPrefix(s[n:], ".") {
		return n
	}
	// A point without a digit behind it is none of the number's.
	if places := run(s[n+1:], isDigit); places > 0 {
		n += 1 + places
	}
	return n
}

// textSize counts a text's quotes in, and is 0 of one that has no end too.
func textSize(s string) int {
	if !strings.HasPrefix(s, quote) {
		return 0
	}
	// A doubled quote ends the text and begins it again at once, so just what stands behind an end tells whether it was one.
	within := false
	for i, r := range s {
		switch {
		case r == '"':
			within = !within
		case !within:
			return i
		}
	}
	if within {
		return 0
	}
	return len(s)
}

// nameSize is the size of the first one of the names that s begins with.
func nameSize(s string, names ...string) int {
	for _, name := range names {
		if strings.HasPrefix(s, name) {
			return len(name)
		}
	}
	return 0
}

// run is how many bytes s begins with that are of a kind.
func run(s string, of func(rune) bool) int {
	for i, r := range s {
		if !of(r) {
			return i
		}
	}
	return len(s)
}

func isDigit(r rune) bool { return r >= '0' && r <= '9' }

func isOfWord(r rune) bool {
	return r >= 'A' && r <= 'Z' || r >= 'a' && r <= 'z' || r == '$' || isDigit(r)
}

// isPrintable needs no look at bytes: what is no UTF-8 is a rune beyond these, too, and begins at the first such byte.
func isPrintable(r rune) bool { return r >= ' ' && r <= '~' }
