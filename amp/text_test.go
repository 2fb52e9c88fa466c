package amp_test

import (
	"strings"
	"testing"

	"photonmesh/amp"
	"photonmesh/api"
)

// P1.8
func TestFormatAndParse(t *testing.T) {
	for _, c := range []struct {
		z    api.Num
		text string
	}{
		{zero, "0"}, {one, "1"}, {num(-1, 0, 0, 0, 0), "-1"}, {w, "w"}, {num(0, -1, 0, 0, 0), "-w"}, {num(0, 0, 1, 0, 0), "w2"}, {num(0, 0, 0, 1, 0), "w3"},
		{num(0, 0, 0, -1, 1), "-w3/1"}, {num(2, 1, 0, -1, 0), "2+w-w3"}, {num(0, 0, 2, -1, 7), "2w2-w3/7"}, {num(-5, -3, 4, 1, 0), "-5-3w+4w2+w3"}, {num(1, 1, 1, 1, 0), "1+w+w2+w3"},
		{num(-1, -1, -1, -1, 0), "-1-w-w2-w3"}, {num(11, 10, -11, -10, 0), "11+10w-11w2-10w3"}, {num(0, 2, 0, 3, 10), "2w+3w3/10"}, {num(1, 0, 0, 0, 40), "1/40"},
		{num(-1000000000, -1000000000, -1000000000, -1000000000, 0), "-1000000000-1000000000w-1000000000w2-1000000000w3"},
		{num(1000000000, 999999999, -1000000000, 1000000000, 39), "1000000000+999999999w-1000000000w2+1000000000w3/39"},
	} {
		if text, e := amp.Format(c.z); text != c.text || e != api.OK {
			t.Errorf("Format(%v) = %q, %d", c.z, text, e)
		}
		z, e := amp.Parse(c.text)
		expect(t, "Parse "+c.text, z, e, c.z, api.OK)
	}
}

// P1.8
func TestParseOfNoTexts(t *testing.T) {
	for _, text := range []string{
		"", " ", "+", "-", "/", "//", "x", "i", "w4", "W", "w1", "w0", "w22", "ww", "--1", "+1", "+w", "-+1", "1+-w", "1-+w", "1++w", "1--w",
		"00", "01", "-0", "+0", "-01", "0w", "1+0w", "w+0w2", "0+w", "w+0", "1w", "-1w", "2+1w3", "02w", "1+02w", "2 w", " 1", "1 ", "1\n", "1\x00", "1+w ",
		"w+1", "w2+w", "w3+w2", "1+1", "w+w", "w2+2w2", "1+w3+w", "1+", "1+w-", "1*w", "1w2w", "12w34",
		"0/0", "0/1", "1/0", "1/", "/1", "1/01", "1/-1", "1/+1", "1/1/1", "1/1w", "w/1+1", "1/41", "1/100", "1/9999999999", "1/99999999999999999999999", "1/18446744073709551617", "1/ 1",
		"1+w2/1", "1-w2/2", "2/1", "1+w+w2+w3/5", "1000000000+1000000000w2/1",
		"1000000001", "-1000000001w", "9999999999", "10000000000", "99999999999999999999", "18446744073709551617", "18446744073709551616", "1+18446744073709551617w",
		"１", "1\u00a0", "w²", strings.Repeat("1", 100000), strings.Repeat("1+", 100000) + "1", strings.Repeat("-", 100000), strings.Repeat("w", 100000),
	} {
		z, e := amp.Parse(text)
		expect(t, "Parse "+text[:min(len(text), 60)], z, e, zero, api.ErrForm)
	}
}

// P1.8: every short text that Parse takes is the text of its number, and these are the texts of all small numbers.
func TestShortTexts(t *testing.T) {
	taken := map[string]bool{}
	var try func(text string)
	try = func(text string) {
		if z, e := amp.Parse(text); e == api.OK {
			taken[text] = true
			if back, e := amp.Format(z); back != text || e != api.OK || !amp.Valid(z) {
				t.Errorf("Format(Parse(%q)) = %q, %d", text, back, e)
			}
		} else if e != api.ErrForm || z != zero {
			t.Errorf("Parse(%q) = %v, %d", text, z, e)
		}
		for _, c := range "0123w+-/x" {
			if len(text) < 5 {
				try(text + string(c))
			}
		}
	}
	try("")
	for n := range 5 * 5 * 5 * 5 * 4 {
		z := num(n%5-2, n/5%5-2, n/25%5-2, n/125%5-2, n/625)
		if text, e := amp.Format(z); e == api.OK && len(text) <= 5 && !taken[text] {
			t.Errorf("Parse does not take %q", text)
		}
	}
}

// P1.13
func TestTextsGoBack(t *testing.T) {
	for _, z := range samples(500) {
		text, e := amp.Format(z)
		if e != api.OK {
			t.Fatalf("Format(%v): %d", z, e)
		}
		back, e := amp.Parse(text)
		expect(t, "Parse "+text, back, e, z, api.OK)
		for i := range text {
			for _, other := range []string{text[:i] + text[i+1:], text[:i] + "1" + text[i:], text[:i] + "+" + text[i+1:], text[:i] + "-" + text[i:], text[:i] + "w" + text[i+1:]} {
				if z, e := amp.Parse(other); e == api.OK {
					if again, e := amp.Format(z); again != other || e != api.OK {
						t.Errorf("Format(Parse(%q)) = %q, %d", other, again, e)
					}
				} else if e != api.ErrForm || z != zero {
					t.Errorf("Parse(%q) = %v, %d", other, z, e)
				}
			}
		}
	}
}
