package desk_test

import (
	"fmt"
	"slices"
	"strings"
	"testing"

	"photonmesh/api"
	"photonmesh/desk"
	"photonmesh/matrix"
	"photonmesh/mesh"
	"photonmesh/probe"
	"photonmesh/synth"
)

func phase(at, n int) api.Item { return api.Item{Kind: api.ItemPhase, At: at, N: n} }

func couple(at int) api.Item { return api.Item{Kind: api.ItemCouple, At: at} }

func cross(at int) api.Item { return api.Item{Kind: api.ItemCross, At: at} }

func use(name string, at int) api.Item { return api.Item{Kind: api.ItemCell, At: at, Name: name} }

// expectCells reports a desk whose netlist is not the wanted one.
func expectCells(t *testing.T, d *desk.Desk, want ...api.Cell) {
	t.Helper()
	same := func(a, b api.Cell) bool {
		return a.Name == b.Name && a.Guides == b.Guides && slices.Equal(a.Items, b.Items)
	}
	if got := d.Cells(); !slices.EqualFunc(got, want, same) {
		t.Errorf("Cells = %v; want %v", got, want)
	}
}

// lineOf returns a line of so many bytes, from 16 on, for a cell whose name begins with four letters.
func lineOf(name string, length int) string {
	more := 1 + (length-12)%4
	return "cell " + name + strings.Repeat("z", more) + " 2:" + couplers((length-11-more)/4)
}

// filled returns a desk with 10 cells, from a to f and four others, and a netlist of so many bytes, from 3500 to 4000.
func filled(t *testing.T, size int) *desk.Desk {
	t.Helper()
	d := desked(t, "cell a 2:"+couplers(40), "invert b a", "invert c a", "invert d a", "invert e a", "invert f a")
	for i := range 4 {
		rest := size - len(netText(d))
		expectDo(t, d, lineOf("fil"+string(rune('a'+i)), rest/(4-i)-1), "ok")
	}
	if len(netText(d)) != size {
		t.Fatalf("filled(%d) has %d bytes", size, len(netText(d)))
	}
	return d
}

// P10.4: cells come behind the others, as mesh.Parse reads them.
func TestCell(t *testing.T) {
	d := desked(t)
	expectDo(t, d, "cell a 2: c1; p2 7", "ok")
	expectDo(t, d, "cell abcdefgh 6:", "ok")
	expectDo(t, d, "cell b 3: a@2; x1; a@1; p3 1", "ok")
	expectCells(t, d, api.Cell{Name: "a", Guides: 2, Items: []api.Item{couple(1), phase(2, 7)}}, api.Cell{Name: "abcdefgh", Guides: 6},
		api.Cell{Name: "b", Guides: 3, Items: []api.Item{use("a", 2), cross(1), use("a", 1), phase(3, 1)}})
	for _, line := range []string{"cell a 2: c1; p2 7", "cell b 1:", "cell a ", "cell a x", "cell abcdefgh  ", "cell b 7: a@1"} {
		expectWrong(t, d, line, api.ErrThere)
	}
	for _, line := range []string{"cell c ", "cell c  ", "cell c 2", "cell c 2:c1", "cell c 2: ", "cell c 2: c1 ", "cell c 2: c1;c1", "cell c  2: c1", "cell c 2 : c1", "cell c 0:", "cell c 7:", "cell c 02:", "cell c 2: c2", "cell c 2: c01",
		"cell c 2: p1 0", "cell c 2: p1 8", "cell c 2: c@1", "cell c 6: z@1", "cell c 2: b@1", "cell c 2: c1\r", "cell c 2: c1; ", "cell c 2: A@1", "cell c cell d 2:", "cell c 2: c1 cell d 2:", "cell c \xff", "cell c 2: é@1"} {
		expectWrong(t, d, line, api.ErrForm)
	}
	expectDo(t, d, "cell c 6: b@4; abcdefgh@1", "ok")
}

// P10.4: the limits of mesh.Parse.
func TestCellLimits(t *testing.T) {
	d := filled(t, 3990)
	expectWrong(t, d, "cell qq 1:", api.ErrLimit)
	expectWrong(t, d, "cell q wrong", api.ErrLimit)
	expectWrong(t, d, "cell q no", api.ErrForm)
	expectWrong(t, d, "cell a 1:"+couplers(20), api.ErrThere)
	expectDo(t, d, "cell q 1:", "ok")
	expect(t, "the length of the text", len(netText(d)), api.OK, 4000, api.OK)
	expectWrong(t, d, "cell r 1:", api.ErrLimit)
	d = desked(t)
	for i := range 20 {
		expectDo(t, d, "cell "+string(rune('a'+i))+" 1:", "ok")
	}
	expectWrong(t, d, "cell z 1:", api.ErrForm)
	expectWrong(t, d, "cell a 1:", api.ErrThere)
}

// P10.4: a line may have 200 bytes.
func TestLongLine(t *testing.T) {
	d := desked(t)
	line := lineOf("long", 200)
	expectWrong(t, d, lineOf("long", 201), api.ErrCommand)
	expectDo(t, d, line, "ok")
	expectList(t, "Lines", d.Lines(), []string{line})
	for _, line := range []string{"permute p 0" + strings.Repeat(" 1", 95), "permute p 0" + strings.Repeat(" 12345", 100), "route 0 0 0 0" + strings.Repeat(" ", 200), strings.Repeat("x", 1<<20)} {
		expectWrong(t, d, line, api.ErrCommand)
	}
}

// P10.4: permutations become cells of crossings.
func TestPermute(t *testing.T) {
	d := desked(t)
	expectDo(t, d, "permute p 2 0 1", "2")
	expectDo(t, d, "permute abcdefgh 0", "0")
	expectDo(t, d, "permute r 2 1 0", "3")
	expectDo(t, d, "permute s 5 4 3 2 1 0", "15")
	expectDo(t, d, "permute t 0 1 2 3 4 5", "0")
	cells := d.Cells()
	expectCells(t, d, api.Cell{Name: "p", Guides: 3, Items: []api.Item{cross(1), cross(2)}}, api.Cell{Name: "abcdefgh", Guides: 1},
		api.Cell{Name: "r", Guides: 3, Items: []api.Item{cross(1), cross(2), cross(1)}}, cells[3], api.Cell{Name: "t", Guides: 6})
	expectDo(t, d, "cell u 6: p@2; s@1; abcdefgh@6", "ok")
	for line, err := range map[string]api.Errno{
		"permute P 0": api.ErrForm, "permute 1 0": api.ErrForm, "permute abcdefghi 0": api.ErrForm, "permute é 0": api.ErrForm, "permute a\tb 0": api.ErrForm, "permute \xff 0": api.ErrForm, "permute p1 7 7": api.ErrForm, "permute a` 0": api.ErrForm, "permute {a 0": api.ErrForm,
		"permute p 0": api.ErrThere, "permute p 7 7": api.ErrThere, "permute u 0 1": api.ErrThere,
		"permute q 1": api.ErrPerm, "permute q 0 0": api.ErrPerm, "permute q 0 1 3": api.ErrPerm, "permute q 999999": api.ErrPerm, "permute q 0 1 2 3 4 5 7": api.ErrPerm,
		"permute q 0 1 2 3 4 5 6": api.ErrLimit, "permute q 6 5 4 3 2 1 0 7 8 9 10 11 12": api.ErrLimit,
	} {
		expectWrong(t, d, line, err)
	}
	expectWrong(t, d, "permute q"+strings.Repeat(" 0", 95), api.ErrPerm)
}

// P10.4: the limits of netlists, for permute.
func TestPermuteLimits(t *testing.T) {
	d := filled(t, 3980)
	expectWrong(t, d, "permute p 2 1 0", api.ErrLimit)
	expectWrong(t, d, "permute p 2 1 1", api.ErrPerm)
	d = filled(t, 3979)
	expectWrong(t, d, "permute pp 2 1 0", api.ErrLimit)
	expectDo(t, d, "permute p 2 1 0", "3")
	expect(t, "the length of the text", len(netText(d)), api.OK, 4000, api.OK)
	expectDo(t, d, "same p p", "yes")
	// Twenty cells are too many for a netlist whatever its text.
	for _, size := range []int{3700, 4000} {
		d = filled(t, size-100)
		for i := range 10 {
			expectDo(t, d, "cell "+string(rune('g'+i))+" 1:", "ok")
		}
		expectWrong(t, d, "permute z 5 4 3 2 1 0", api.ErrNet)
		expectWrong(t, d, "permute z 0", api.ErrNet)
		expectWrong(t, d, "invert z g", api.ErrNet)
		expectWrong(t, d, "permute z 0 0", api.ErrPerm)
		expectWrong(t, d, "invert z y", api.ErrNone)
	}
}

// P10.4: inverse circuits become cells.
func TestInvert(t *testing.T) {
	d := desked(t, "cell a 2: c1; p2 3", "cell b 3: a@2; x1", "cell e 4:")
	expectDo(t, d, "invert c a", "4")
	expectDo(t, d, "invert d b", "5")
	expectDo(t, d, "invert f e", "0")
	expectDo(t, d, "invert g c", "6")
	expectDo(t, d, "cell h 4: d@2; g@1", "ok")
	back := []api.Item{phase(2, 5), phase(1, 4), couple(1), phase(1, 4)}
	expectCells(t, d, api.Cell{Name: "a", Guides: 2, Items: []api.Item{couple(1), phase(2, 3)}}, api.Cell{Name: "b", Guides: 3, Items: []api.Item{use("a", 2), cross(1)}}, api.Cell{Name: "e", Guides: 4},
		api.Cell{Name: "c", Guides: 2, Items: back}, api.Cell{Name: "d", Guides: 3, Items: []api.Item{cross(1), phase(3, 5), phase(2, 4), couple(2), phase(2, 4)}}, api.Cell{Name: "f", Guides: 4},
		api.Cell{Name: "g", Guides: 2, Items: []api.Item{phase(1, 4), phase(1, 4), couple(1), phase(1, 4), phase(1, 4), phase(2, 3)}}, api.Cell{Name: "h", Guides: 4, Items: []api.Item{use("d", 2), use("g", 1)}})
	for line, err := range map[string]api.Errno{
		"invert A a": api.ErrForm, "invert a1 z": api.ErrForm, "invert abcdefghi a": api.ErrForm, "invert \xff a": api.ErrForm, "invert 7 a": api.ErrForm,
		"invert a b": api.ErrThere, "invert a a": api.ErrThere, "invert h z": api.ErrThere, "invert b Z": api.ErrThere,
		"invert z y": api.ErrNone, "invert z z": api.ErrNone, "invert z A": api.ErrNone, "invert z abcdefghi": api.ErrNone, "invert z \xff": api.ErrNone, "invert z 1": api.ErrNone,
	} {
		expectWrong(t, d, line, err)
	}
}

// P10.4: the limits of flat items, of their inverse, and of netlists, for invert.
func TestInvertLimits(t *testing.T) {
	d := desked(t, "cell a 2:"+couplers(25), "cell b 2:"+uses("a", 20), "cell c 2:"+uses("b", 10), "cell d 2: c@1; c1", "cell e 2: b@1; b@1; b@1; a@1; a@1; a@1; a@1; a@1; a@1",
		"cell f 2: e@1; c1; c1; c1; c1; c1; c1; c1; c1; c1; c1; c1; c1; c1; c1; c1; c1", "cell g 2: f@1; c1", "cell h 2: a@1; a@1; c1; c1; c1; c1; c1; c1; c1; c1; c1; c1; c1; c1; c1; c1; c1; c1; p1 1; p1 1", "cell i 2: h@1; p1 1")
	for _, c := range []struct {
		of   string
		flat int
		err  api.Errno
	}{{"c", 5000, api.ErrLimit}, {"d", 0, api.ErrLimit}, {"f", 1666, api.ErrNet}, {"g", 1667, api.ErrLimit}, {"b", 500, api.ErrNet}, {"i", 69, api.ErrNet}} {
		cells := d.Cells()
		at := slices.IndexFunc(cells, func(x api.Cell) bool { return x.Name == c.of })
		flat, _ := mesh.Flat(cells[:at+1])
		expect(t, "flat items of "+c.of, len(flat), api.OK, c.flat, api.OK)
		expectWrong(t, d, "invert z "+c.of, c.err)
	}
	expectDo(t, d, "invert z h", "200")
	expectDo(t, d, "same z h", "no")
	// That of a phase is as long: "cell g 1: p1 4" and a line feed have 15 bytes.
	d = filled(t, 3970)
	expectDo(t, d, "cell g 1: p1 4", "ok")
	expectWrong(t, d, "invert hh g", api.ErrLimit)
	expectWrong(t, d, "invert h a", api.ErrLimit)
	expectDo(t, d, "invert h g", "1")
	expect(t, "the length of the text", len(netText(d)), api.OK, 4000, api.OK)
}

// P10.4: the cell that is inverted is that of the netlist that ends with it.
func TestInvertUsesItsOwnNetlist(t *testing.T) {
	// The last cell has more flat items than there may be, the first one has not.
	d := desked(t, "cell a 2:"+couplers(25), "cell b 3:"+uses("a", 30), "cell c 4:"+uses("b", 30))
	expectDo(t, d, "invert d a", "75")
	expectWrong(t, d, "invert e c", api.ErrLimit)
	expect(t, "guides", d.Cells()[3].Guides, api.OK, 2, api.OK)
}

// P10.4: blocked cells of the grid, in the order of blocking.
func TestBlock(t *testing.T) {
	d := desked(t)
	want := []api.XY{{X: 19, Y: 0}, {X: 0, Y: 19}, {X: 7, Y: 3}, {X: 3, Y: 7}, {X: 0, Y: 0}, {X: 19, Y: 19}}
	for _, c := range want {
		expectDo(t, d, fmt.Sprint("block ", c.X, " ", c.Y), "ok")
	}
	for _, line := range []string{"block 20 0", "block 0 20", "block 20 20", "block 999999 999999", "block 20 7"} {
		expectWrong(t, d, line, api.ErrArg)
	}
	for _, c := range want {
		expectWrong(t, d, fmt.Sprint("block ", c.X, " ", c.Y), api.ErrThere)
	}
	g := d.Grid()
	expectList(t, "Blocked", g.Blocked, want)
	if g.W != 20 || g.H != 20 || g.Move != 10 || g.Bend != 5 {
		t.Errorf("Grid = %v", g)
	}
}

// P10.4: tests, followed by hand; with no switch turned light goes straight. Switches: first 0, first 1, last 0, last 1, upper, lower.
func TestTest(t *testing.T) {
	d := desked(t)
	expectDo(t, d, "test 000000 0 0", "16")
	expectDo(t, d, "test 100000 0 2", "4")
	expectWrong(t, d, "test 100000 0 3", api.ErrNone)
	expectWrong(t, d, "test 000000 0 1", api.ErrNone)
	expectDo(t, d, "test 100000 0 2", "4")
	for _, line := range []string{"test 000000 4 0", "test 000000 0 4", "test 111111 999999 0", "test 000000 4 4", "test 000000 0 10"} {
		expectWrong(t, d, line, api.ErrArg)
	}
	turned := []bool{true, false, false, false, false, false}
	want := []api.Test{{Turned: make([]bool, 6)}, {Turned: turned, Out: 2}, {Turned: turned, Out: 2}}
	v := seen(d)
	expectView(t, "test", v, view{Lines: []string{"test 000000 0 0", "test 100000 0 2", "test 100000 0 2"}, Grid: emptyView().Grid, Tests: want})
}

// P10.4: at most 40 tests; other errors in front of that.
func TestTestLimit(t *testing.T) {
	d := desked(t)
	for range 40 {
		expectDo(t, d, "test 010110 3 1", "16")
	}
	expectWrong(t, d, "test 010110 3 1", api.ErrLimit)
	expectWrong(t, d, "test 010110 3 2", api.ErrLimit)
	expectWrong(t, d, "test 010110 4 2", api.ErrArg)
	expectDo(t, d, "block 0 0", "ok")
	expect(t, "tests", len(d.Tests()), api.OK, 40, api.OK)
}

// P10.4 and P10.10: the states that agree with all tests are counted, and never more.
func TestTestsOfStates(t *testing.T) {
	r := random(3)
	for range 60 {
		d := desked(t)
		state, last := r.Intn(64), 64
		for range 12 {
			test := api.Test{Turned: make([]bool, 6), In: r.Intn(4), Out: r.Intn(4)}
			text := ""
			for s := range test.Turned {
				digit := r.Intn(2)
				test.Turned[s] = digit == 1
				text += fmt.Sprint(digit)
			}
			if r.Intn(4) > 0 {
				test.Out, _ = probe.Answer(4, state, test.Turned, test.In)
			}
			left := 0
			for state := range 64 {
				if agrees(t, state, append(d.Tests(), test)) {
					left++
				}
			}
			line := fmt.Sprint("test ", text, " ", test.In, " ", test.Out)
			if left == 0 {
				expectWrong(t, d, line, api.ErrNone)
				continue
			}
			expectDo(t, d, line, fmt.Sprint(left))
			if left > last {
				t.Errorf("%s: %d states left behind %d", line, left, last)
			}
			last = left
		}
	}
}

// agrees reports whether a state agrees with all tests.
func agrees(t *testing.T, state int, tests []api.Test) bool {
	t.Helper()
	for _, test := range tests {
		is, e := probe.Agrees(4, state, test)
		expectErr(t, "Agrees", e, api.OK)
		if !is {
			return false
		}
	}
	return true
}

// P10.7: what permute adds has the matrix of the permutation, with as many crossings as it has inversions.
func TestPermutations(t *testing.T) {
	r := random(4)
	for n := 1; n <= 6; n++ {
		for range 40 {
			perm := r.Perm(n)
			line, inversions := "permute p", 0
			for i, k := range perm {
				line += fmt.Sprint(" ", k)
				for _, l := range perm[i+1:] {
					if k > l {
						inversions++
					}
				}
			}
			d := desked(t, "cell a 2: c1")
			expectDo(t, d, line, fmt.Sprint(inversions))
			want, _ := synth.PermMatrix(perm)
			c := d.Cells()[1]
			if !sameMatrix(matrixOf(t, d, "p"), want) || c.Guides != n || len(c.Items) != inversions {
				t.Errorf("%s: the cell is %v", line, c)
			}
			for _, x := range c.Items {
				expect(t, line, x.Kind, api.OK, api.ItemCross, api.OK)
			}
		}
	}
}

// P10.7: what invert adds has the Dagger of the cell's matrix.
func TestInverses(t *testing.T) {
	r := random(5)
	for range 200 {
		d := desked(t)
		for range 12 {
			_, _ = d.Do(anyDeed(r))
		}
		for _, c := range d.Cells() {
			answer, e := d.Do("invert inverse " + c.Name)
			if e == api.OK {
				want, _ := matrix.Dagger(matrixOf(t, d, c.Name))
				added := d.Cells()[len(d.Cells())-1]
				if !sameMatrix(matrixOf(t, d, "inverse"), want) || added.Guides != c.Guides {
					t.Errorf("invert of %v is %v", c, added)
				}
				expect(t, "items", fmt.Sprint(len(added.Items)), api.OK, answer, api.OK)
				break
			}
		}
	}
}
