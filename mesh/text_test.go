package mesh_test

import (
	"slices"
	"strings"
	"testing"

	"photonmesh/api"
	"photonmesh/mesh"
)

// sameNet reports whether two netlists are the same.
func sameNet(a, b []api.Cell) bool {
	return slices.EqualFunc(a, b, func(x, y api.Cell) bool {
		return x.Name == y.Name && x.Guides == y.Guides && slices.Equal(x.Items, y.Items)
	})
}

// P3.2
func TestFormatAndParse(t *testing.T) {
	for _, c := range []struct {
		net  []api.Cell
		text string
	}{
		{[]api.Cell{cell("a", 2, couple(1), phase(1, 4), couple(1)), cell("main", 3, use("a", 2), cross(1))}, "cell a 2: c1; p1 4; c1\ncell main 3: a@2; x1\n"},
		{[]api.Cell{cell("a", 1)}, "cell a 1:\n"}, {[]api.Cell{cell("abcdefgh", 6), cell("z", 1)}, "cell abcdefgh 6:\ncell z 1:\n"},
		{[]api.Cell{cell("cell", 6, phase(6, 7), couple(5), cross(5))}, "cell cell 6: p6 7; c5; x5\n"},
		{[]api.Cell{cell("p", 1), cell("c", 1), cell("x", 1), cell("cell", 6, use("p", 1), use("c", 6), use("x", 3))}, "cell p 1:\ncell c 1:\ncell x 1:\ncell cell 6: p@1; c@6; x@3\n"},
	} {
		if text, e := mesh.Format(c.net); text != c.text || e != api.OK {
			t.Errorf("Format(%v) = %q, %d", c.net, text, e)
		}
		if net, e := mesh.Parse(c.text); !sameNet(net, c.net) || e != api.OK {
			t.Errorf("Parse(%q) = %v, %d", c.text, net, e)
		}
	}
}

// P3.2
func TestParseOfNoTexts(t *testing.T) {
	for _, text := range []string{
		"", "\n", " ", "cell", "cell ", "cell\n", "cell a\n", "cell a 1\n", "cell a 1:", "cell a:\n", "cell  1:\n", "cell 1:\n", "cell a :\n", ":\n", "a 1:\n", "cella 1:\n", "Cell a 1:\n", " cell a 1:\n", "cell  a 1:\n", "cell a  1:\n", "cell a 1 :\n",
		"cell a 1: \n", "cell a 1:\n\n", "\ncell a 1:\n", "cell a 1:\r\n", "cell a 1:\ncell b 1:", "cell a 1:\n ", "cell a 1:cell b 1:\n", "cell a 1::\n", "cell a 1:;\n", "cell a 1: ;\n", "cell a 1:\x00\n",
		"cell a 0:\n", "cell a 7:\n", "cell a 01:\n", "cell a +1:\n", "cell a -1:\n", "cell a 10:\n", "cell a x:\n", "cell a 18446744073709551617:\n", "cell a 1a:\n", "cell a ١:\n",
		"cell A 1:\n", "cell a1 1:\n", "cell abcdefghi 1:\n", "cell é 1:\n", "cell a b 1:\n", "cell a@ 1:\n",
		"cell a 1:\ncell a 1:\n", "cell a 1: a@1\n", "cell b 1: a@1\ncell a 1:\n", "cell a 2:\ncell b 1: a@1\n", "cell a 2:\ncell b 2: a@2\n", "cell a 1:\ncell b 1: a@0\n", "cell a 1:\ncell b 1: @1\n", "cell a 1:\ncell b 1: a@\n", "cell a 1:\ncell b 1: a@1 0\n",
		"cell a 1:\ncell b 1: a@01\n", "cell a 1:\ncell b 1: a@1@1\n", "cell a 1:\ncell b 1: a@-1\n", "cell a 1:\ncell b 1: a @1\n", "cell a 1:\ncell b 1: a@ 1\n", "cell a 1:\ncell b 1: A@1\n", "cell a 1:\ncell b 1: a@18446744073709551617\n",
		"cell a 2: c1;\n", "cell a 2: c1; \n", "cell a 2: ;c1\n", "cell a 2:c1\n", "cell a 2:  c1\n", "cell a 2: c1;c1\n", "cell a 2: c1 ; c1\n", "cell a 2: c1;  c1\n", "cell a 2: c1, c1\n", "cell a 2: c1 c1\n", "cell a 2: c1;; c1\n", "cell a 2: c1 \n",
		"cell a 2: c\n", "cell a 2: c0\n", "cell a 2: c2\n", "cell a 2: c01\n", "cell a 2: c 1\n", "cell a 2: c1 0\n", "cell a 2: c1 1\n", "cell a 2: C1\n", "cell a 2: x1 0\n", "cell a 2: x\n", "cell a 2: x2\n", "cell a 2: y1\n", "cell a 2: 1\n", "cell a 2: c-1\n", "cell a 2: c1.\n",
		"cell a 2: p1\n", "cell a 2: p1 \n", "cell a 2: p1 0\n", "cell a 2: p1 8\n", "cell a 2: p1 9\n", "cell a 2: p1 01\n", "cell a 2: p1 +1\n", "cell a 2: p1  1\n", "cell a 2: p1 1 1\n", "cell a 2: p 1\n", "cell a 2: p3 1\n", "cell a 2: p0 1\n", "cell a 2: p01 1\n", "cell a 2: p11\n", "cell a 2: p1 -1\n", "cell a 2: p1 18446744073709551617\n",
		strings.Repeat("\n", 4000), strings.Repeat("cell a 1:\n", 400), "cell a 1: " + strings.Repeat("p1 1; ", 200) + "p1 1\n", strings.Repeat(";", 4000), "cell a 1:" + strings.Repeat(" ", 3991), strings.Repeat("x", 4000),
	} {
		if net, e := mesh.Parse(text); len(net) != 0 || e != api.ErrForm {
			t.Errorf("Parse(%.80q) = %v, %d", text, net, e)
		}
	}
}

// P3.2: every text with a byte more, less or changed is no text, or that of what Parse makes of it.
func TestNearTexts(t *testing.T) {
	const text = "cell ab 2: p1 3; c1\ncell c 3: ab@2; x1\n"
	check := func(near string) {
		net, e := mesh.Parse(near)
		if e != api.OK && (len(net) != 0 || e != api.ErrForm) {
			t.Errorf("Parse(%q) = %v, %d", near, net, e)
		}
		if back, err := mesh.Format(net); e == api.OK && (back != near || err != api.OK || !mesh.Valid(net)) {
			t.Errorf("Format(Parse(%q)) = %q, %d", near, back, err)
		}
	}
	for i := range text {
		check(text[:i])
		check(text[:i] + text[i+1:])
		for b := range 256 {
			check(text[:i] + string([]byte{byte(b)}) + text[i+1:])
			check(text[:i] + string([]byte{byte(b)}) + text[i:])
		}
	}
}

// longNet returns a netlist of 20 cells whose text has so many bytes, about MaxText.
func longNet(size int) []api.Cell {
	var net []api.Cell
	for i := range 20 {
		// Each line has 10 bytes, 3 for its first coupler, and 4 for each other one.
		net = append(net, cell(string(rune('a'+i)), 2, slices.Repeat([]api.Item{couple(1)}, 47)...))
		size -= 10 + 47*4 - 1
	}
	// Up to 140 more bytes go into longer names.
	for i := range net {
		more := min(size, 7)
		net[i].Name += strings.Repeat("z", more)
		size -= more
	}
	return net
}

// P3.2: MaxText
func TestTextLimits(t *testing.T) {
	for size := 3980; size <= 4020; size++ {
		net := longNet(size)
		text, e := mesh.Format(net)
		if size > 4000 {
			if text != "" || e != api.ErrLimit {
				t.Errorf("Format of %d bytes = %.40q, %d", size, text, e)
			}
			continue
		}
		if len(text) != size || e != api.OK {
			t.Errorf("Format of %d bytes has %d, %d", size, len(text), e)
		}
		if back, e := mesh.Parse(text); !sameNet(back, net) || e != api.OK {
			t.Errorf("Parse of %d bytes = %.40v, %d", size, back, e)
		}
	}
	full := []api.Cell{}
	for i := range 20 {
		full = append(full, cell(string(rune('a'+i)), 1, slices.Repeat([]api.Item{phase(1, 7)}, 200)...))
	}
	if text, e := mesh.Format(full); text != "" || e != api.ErrLimit {
		t.Errorf("Format of 4000 items = %.40q, %d", text, e)
	}
	for _, text := range []string{strings.Repeat(" ", 4001), strings.Repeat("cell a 1:\n", 401), "cell a 1:" + strings.Repeat(" p1 1;", 700) + " p1 1\n", strings.Repeat("\n", 1000000)} {
		if net, e := mesh.Parse(text); len(net) != 0 || e != api.ErrLimit {
			t.Errorf("Parse of %d bytes = %.40v, %d", len(text), net, e)
		}
	}
}

// P3.10
func TestTextsOfNetlists(t *testing.T) {
	r := random(10)
	count := 0
	for range 500 {
		net := anyNet(r, 1+r.Intn(20), 1+r.Intn(30))
		text, e := mesh.Format(net)
		if e == api.ErrLimit && text == "" {
			continue
		}
		if e != api.OK || len(text) > 4000 {
			t.Errorf("Format(%v) = %q, %d", net, text, e)
		}
		back, e := mesh.Parse(text)
		if !sameNet(back, net) || e != api.OK {
			t.Errorf("Parse(%q) = %v, %d; want %v", text, back, e, net)
		}
		if again, e := mesh.Format(back); again != text || e != api.OK {
			t.Errorf("Format of Parse(%q) = %q, %d", text, again, e)
		}
		count++
	}
	if count < 100 {
		t.Errorf("only %d texts", count)
	}
}
