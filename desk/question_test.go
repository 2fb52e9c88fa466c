package desk_test

import (
	"fmt"
	"strings"
	"testing"

	"photonmesh/amp"
	"photonmesh/api"
	"photonmesh/layout"
	"photonmesh/matrix"
	"photonmesh/mesh"
)

// steep returns lines of cells on two guides, the last of which has a matrix that is not in range.
func steep() []string {
	return []string{"cell low 2:" + strings.TrimSuffix(strings.Repeat(" c1; p1 1;", 15), ";"), "cell high 2:" + uses("low", 6)}
}

// P10.5: whether matrices are equal.
func TestSame(t *testing.T) {
	d := desked(t, "cell a 2: c1; c1", "cell b 2: x1; p1 2; p2 2", "cell c 2: x1", "cell d 3: c1; c1", "cell e 3: b@1", "cell f 2: a@1", "cell g 1:", "cell h 2:", "cell i 2: c@1; c@1")
	classes := map[string]string{"a": "ix", "b": "ix", "c": "x", "d": "ix1", "e": "ix1", "f": "ix", "g": "1", "h": "11", "i": "11"}
	for a := range classes {
		for b := range classes {
			want := "no"
			if classes[a] == classes[b] {
				want = "yes"
			}
			expectDo(t, d, "same "+a+" "+b, want)
		}
	}
	for _, line := range []string{"same a z", "same z a", "same z y", "same a A", "same a aa", "same \xff a", "same a 1"} {
		expectWrong(t, d, line, api.ErrNone)
	}
	expectList(t, "Lines", d.Lines()[8:], []string{"cell i 2: c@1; c@1"})
}

// P10.5: no such cell comes in front of what mesh.Matrix says of the other one.
func TestSameErrors(t *testing.T) {
	d := desked(t, append(steep(), "cell unit 2:")...)
	expectDo(t, d, "same low low", "yes")
	_, e := mesh.Matrix(d.Cells()[:2])
	expectErr(t, "Matrix", e, api.ErrLimit)
	for _, line := range []string{"same low high", "same high low", "same high high"} {
		expectWrong(t, d, line, api.ErrLimit)
	}
	for _, line := range []string{"same high z", "same z high", "least z", "chance z 1 1"} {
		expectWrong(t, d, line, api.ErrNone)
	}
	// mesh.Matrix forms those of all cells of the netlist that ends with a cell, also the one that is not in range.
	for _, line := range []string{"same unit unit", "least unit", "chance unit 10 10", "least high", "chance high 1 2345678"} {
		expectWrong(t, d, line, api.ErrLimit)
	}
}

// P10.5: chances of patterns.
func TestChance(t *testing.T) {
	d := desked(t, "cell a 2: c1", "cell b 3: a@1; a@2", "cell c 1: p1 3", "cell d 2: c1; p1 1; c1")
	for line, want := range map[string]string{
		"chance a 11 20": "1 2", "chance a 11 11": "0 1", "chance a 11 02": "1 2", "chance a 10 01": "1/2 1", "chance a 00 00": "1 1", "chance a 20 20": "1 4", "chance a 20 11": "1 2",
		"chance b 100 001": "1/4 1", "chance b 010 010": "1/4 1", "chance c 5 5": "14400 14400", "chance c 0 0": "1 1", "chance d 10 10": "-1+w-w3/3 1", "chance d 01 10": "1+w-w3/3 1",
	} {
		expectDo(t, d, line, want)
	}
	for line, err := range map[string]api.Errno{
		"chance z 1 1": api.ErrNone, "chance A 1 1": api.ErrNone, "chance z 999 9": api.ErrNone,
		"chance a 1 1": api.ErrSize, "chance a 11 200": api.ErrSize, "chance a 110 20": api.ErrSize, "chance a 9 11": api.ErrSize, "chance a 99 9": api.ErrSize, "chance a 1 10000000000000000000000": api.ErrSize,
		"chance a 11 10": api.ErrArg, "chance a 33 33": api.ErrArg, "chance a 60 06": api.ErrArg, "chance a 00 01": api.ErrArg, "chance c 9 9": api.ErrArg,
	} {
		expectWrong(t, d, line, err)
	}
}

// P10.5: chances whose number is not in range.
func TestChanceLimit(t *testing.T) {
	d := desked(t, steep()[0])
	m := matrixOf(t, d, "low")
	_, _, e := matrix.Chance(m, []int{3, 2}, []int{3, 2})
	expectErr(t, "Chance", e, api.ErrLimit)
	expectWrong(t, d, "chance low 32 32", api.ErrLimit)
	expectWrong(t, d, "chance low 32 31", api.ErrArg)
}

// P10.5: any chances are those of layer 2.
func TestChances(t *testing.T) {
	r := random(6)
	for range 100 {
		d := desked(t)
		for range 6 {
			_, _ = d.Do(anyDeed(r))
		}
		for _, c := range d.Cells() {
			photons := r.Intn(6)
			in, out := make([]int, c.Guides), make([]int, c.Guides)
			for range photons {
				in[r.Intn(c.Guides)]++
				out[r.Intn(c.Guides)]++
			}
			line := "chance " + c.Name + " " + strings.Trim(strings.ReplaceAll(fmt.Sprint(in, out), " ", ""), "[]")
			line = strings.ReplaceAll(line, "][", " ")
			z, by, e := matrix.Chance(matrixOf(t, d, c.Name), in, out)
			if e != api.OK {
				expectWrong(t, d, line, e)
				continue
			}
			text, _ := amp.Format(z)
			expectDo(t, d, line, fmt.Sprint(text, " ", by))
		}
	}
}

// P10.5: routes on the grid, around blocked cells.
func TestRoute(t *testing.T) {
	d := desked(t)
	expectDo(t, d, "route 0 0 3 2", "55")
	expectDo(t, d, "route 0 0 0 0", "0")
	expectDo(t, d, "route 0 0 19 19", "385")
	expectDo(t, d, "route 19 3 0 3", "190")
	for _, line := range []string{"block 1 0", "block 1 1", "block 0 3"} {
		expectDo(t, d, line, "ok")
	}
	expectDo(t, d, "route 0 0 2 0", "70")
	for line, err := range map[string]api.Errno{
		"route 0 0 20 0": api.ErrBlock, "route 0 0 0 20": api.ErrBlock, "route 20 0 0 0": api.ErrBlock, "route 0 20 0 0": api.ErrBlock, "route 999999 999999 999999 999999": api.ErrBlock,
		"route 1 0 0 0": api.ErrBlock, "route 0 0 1 1": api.ErrBlock, "route 1 0 1 0": api.ErrBlock,
	} {
		expectWrong(t, d, line, err)
	}
	expectDo(t, d, "block 1 2", "ok")
	expectWrong(t, d, "route 0 0 2 0", api.ErrNone)
	expectWrong(t, d, "route 5 5 0 2", api.ErrNone)
	expectDo(t, d, "route 0 0 0 2", "20")
}

// P10.5: any routes are those of layer 7.
func TestRoutes(t *testing.T) {
	r := random(7)
	for range 20 {
		d := openDesk(t, newFlash(t, 64))
		for range 60 {
			_, _ = d.Do(fmt.Sprint("block ", r.Intn(6), " ", r.Intn(20)))
		}
		for range 20 {
			a, b := api.XY{X: r.Intn(7), Y: r.Intn(20)}, api.XY{X: r.Intn(7), Y: r.Intn(20)}
			line := fmt.Sprint("route ", a.X, " ", a.Y, " ", b.X, " ", b.Y)
			_, cost, e := layout.Route(d.Grid(), a, b)
			if e != api.OK {
				expectWrong(t, d, line, e)
				continue
			}
			expectDo(t, d, line, fmt.Sprint(cost))
		}
	}
}

// P10.5: how many couplers there are at least, and how many there are.
func TestLeast(t *testing.T) {
	d := desked(t, "cell a 2: c1", "cell b 2: c1; p1 3; c1; x1", "cell c 3: a@1; a@2; c1; p3 1", "cell d 4: c@1; c@2; b@3", "cell e 2: x1; p1 7", "cell f 2: c1; c1; a@1; a@1")
	for line, want := range map[string]string{"least a": "1 1", "least b": "2 2", "least c": "3 3", "least e": "0 0", "least f": "0 4"} {
		expectDo(t, d, line, want)
	}
	m := matrixOf(t, d, "d")
	exponent, _ := matrix.Exponent(m)
	expectDo(t, d, "least d", fmt.Sprint(exponent, " 8"))
	for _, line := range []string{"least z", "least A", "least aa", "least 1", "least \xff"} {
		expectWrong(t, d, line, api.ErrNone)
	}
}

// P10.5: a cell whose matrix is in range, with more flat items than there may be.
func TestLeastLimit(t *testing.T) {
	d := desked(t, "cell a 2:"+couplers(20), "cell b 2:"+uses("a", 25), "cell c 2:"+uses("b", 10), "cell d 2: c@1; c@1")
	expectDo(t, d, "least c", "0 5000")
	expectDo(t, d, "same c d", "yes")
	expectWrong(t, d, "least d", api.ErrLimit)
}

// P10.7: same is an equivalence, and says whether the matrices are equal.
func TestSameIsAnEquivalence(t *testing.T) {
	r := random(8)
	for range 40 {
		d := desked(t)
		for range 25 {
			_, _ = d.Do(anyDeed(r))
		}
		same := map[[2]string]string{}
		cells := d.Cells()
		for _, a := range cells {
			for _, b := range cells {
				answer, e := d.Do("same " + a.Name + " " + b.Name)
				expectErr(t, "same", e, api.OK)
				same[[2]string{a.Name, b.Name}] = answer
				if is := sameMatrix(matrixOf(t, d, a.Name), matrixOf(t, d, b.Name)); is != (answer == "yes") {
					t.Errorf("same of %v and %v: %s", a, b, answer)
				}
			}
		}
		for _, a := range cells {
			expect(t, "same of one cell", same[[2]string{a.Name, a.Name}], api.OK, "yes", api.OK)
			for _, b := range cells {
				ab := same[[2]string{a.Name, b.Name}]
				expect(t, "same the other way", same[[2]string{b.Name, a.Name}], api.OK, ab, api.OK)
				for _, c := range cells {
					if ab == "yes" && same[[2]string{b.Name, c.Name}] == "yes" {
						expect(t, "same of three cells", same[[2]string{a.Name, c.Name}], api.OK, "yes", api.OK)
					}
				}
			}
		}
	}
}
