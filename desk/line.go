package desk

import (
	"strconv"
	"strings"

	"photonmesh/api"
)

const (
	maxName   = 8 // letters of a name
	maxDigits = 6 // digits of a number
	switches  = 6 // of the network that is tested
)

// kind says which words may stand at a place of a line.
type kind func(word string) bool

// command is a kind of line: a deed, which makes another plan of a plan, or a question about it; the other one of both is nil.
type command struct {
	word string
	form []kind // of the words behind the first one
	more kind   // of any words behind these; nil if there may be none
	deed func(p plan, words []string) (plan, string, api.Errno)
	ask  func(p plan, words []string) (string, api.Errno)
}

// commands returns all kinds of lines.
func commands() []command {
	return []command{
		{word: "cell", form: []kind{isName, isAny}, more: isAny, deed: plan.cell},
		{word: "permute", form: []kind{isWord, isNumber}, more: isNumber, deed: plan.permute},
		{word: "invert", form: []kind{isWord, isWord}, deed: plan.invert},
		{word: "block", form: []kind{isNumber, isNumber}, deed: plan.block},
		{word: "test", form: []kind{isSettings, isNumber, isNumber}, deed: plan.test},
		{word: "same", form: []kind{isWord, isWord}, ask: plan.same},
		{word: "chance", form: []kind{isWord, isDigits, isDigits}, ask: plan.chance},
		{word: "route", form: []kind{isNumber, isNumber, isNumber, isNumber}, ask: plan.route},
		{word: "least", form: []kind{isWord}, ask: plan.least},
	}
}

// read returns the command whose line it is, and the words behind the first one, or false if it is no line.
func read(line string) (command, []string, bool) {
	if len(line) > api.MaxEntry || strings.Contains(line, "\n") {
		return command{}, nil, false
	}
	words := strings.Split(line, " ")
	for _, c := range commands() {
		if c.word == words[0] && c.fits(words[1:]) {
			return c, words[1:], true
		}
	}
	return command{}, nil, false
}

// fits reports whether these words may stand behind the first one.
func (c command) fits(words []string) bool {
	if len(words) < len(c.form) {
		return false
	}
	for i, word := range words {
		is := c.more
		if i < len(c.form) {
			is = c.form[i]
		}
		if is == nil || !is(word) {
			return false
		}
	}
	return true
}

// isAny takes any text, also the empty one that is between two spaces.
func isAny(string) bool { return true }

// isWord reports whether there is a word.
func isWord(word string) bool { return word != "" }

// isName reports whether a word is a name.
func isName(word string) bool { return len(word) <= maxName && consists(word, 'a', 'z') }

// isDigits reports whether a word consists of digits.
func isDigits(word string) bool { return consists(word, '0', '9') }

// isNumber reports whether a word is a number.
func isNumber(word string) bool {
	return len(word) <= maxDigits && isDigits(word) && (word == "0" || word[0] != '0')
}

// isSettings reports whether a word is the settings of the network that is tested.
func isSettings(word string) bool { return len(word) == switches && consists(word, '0', '1') }

// consists reports whether a word consists of one or more runes from first to last.
func consists(word string, first, last rune) bool {
	for _, c := range word {
		if c < first || c > last {
			return false
		}
	}
	return word != ""
}

// numbers returns the numbers whose texts these words are.
func numbers(words []string) []int {
	var l []int
	for _, word := range words {
		n, _ := strconv.Atoi(word)
		l = append(l, n)
	}
	return l
}

// digits returns the digits of a word.
func digits(word string) []int {
	var l []int
	for _, c := range word {
		l = append(l, int(c-'0'))
	}
	return l
}

// turned returns the settings whose text a word is.
func turned(word string) []bool {
	var l []bool
	for _, c := range word {
		l = append(l, c == '1')
	}
	return l
}
