package amp

import (
	"strconv"
	"strings"

	"photonmesh/api"
)

// maxDigits is how many digits are read of a number of a text: the greatest element has as many.
const maxDigits = 10

// names are the texts of the powers of w.
var names = [4]string{"", "w", "w2", "w3"}

// Format returns the text of z.
func Format(z api.Num) (string, api.Errno) {
	if e := check(z); e != api.OK {
		return "", e
	}
	if z == (api.Num{}) {
		return "0", api.OK
	}
	text := ""
	for i, c := range z.A {
		if c > 0 && text != "" {
			text += "+"
		}
		if c != 0 {
			text += factor(c, i) + names[i]
		}
	}
	if z.K != 0 {
		text += "/" + strconv.Itoa(z.K)
	}
	return text, api.OK
}

// factor returns the text of the element c in front of the name of w^i.
func factor(c, i int) string {
	if i > 0 && c == 1 {
		return ""
	}
	if i > 0 && c == -1 {
		return "-"
	}
	return strconv.Itoa(c)
}

// Parse returns the valid number whose text it is.
func Parse(text string) (api.Num, api.Errno) {
	z, ok := read(text)
	if !ok {
		return api.Num{}, api.ErrForm
	}
	// read also takes texts that are near to one: only the text of the number counts.
	if back, e := Format(z); e != api.OK || back != text {
		return api.Num{}, api.ErrForm
	}
	return z, api.OK
}

// read returns the number whose text it is; for other texts it returns any number, or false.
func read(text string) (api.Num, bool) {
	var z api.Num
	sum, exponent, _ := strings.Cut(text, "/")
	z.K, _ = digits(exponent)
	for sum != "" {
		c, i, rest := term(sum)
		if len(rest) == len(sum) {
			return api.Num{}, false
		}
		z.A[i] = c
		sum = rest
	}
	return z, true
}

// term returns the element and the index of the term at the start of text, and what follows it.
func term(text string) (c, i int, rest string) {
	rest, minus := strings.CutPrefix(text, "-")
	if !minus {
		rest = strings.TrimPrefix(rest, "+")
	}
	c, n := digits(rest)
	if n == 0 {
		c = 1
	}
	if minus {
		c = -c
	}
	rest = rest[n:]
	// The last names come first, for they may begin with others; every text begins with the first one.
	i = len(names) - 1
	for !strings.HasPrefix(rest, names[i]) {
		i--
	}
	return c, i, rest[len(names[i]):]
}

// digits returns the number that the digits at the start of text make, and how many they are.
func digits(text string) (value, n int) {
	for n < len(text) && n < maxDigits && text[n] >= '0' && text[n] <= '9' {
		value = value*10 + int(text[n]-'0')
		n++
	}
	return value, n
}
