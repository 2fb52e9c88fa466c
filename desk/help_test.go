package desk_test

import (
	"fmt"
	"math"
	"math/rand"
	"reflect"
	"slices"
	"strings"
	"testing"

	"photonmesh/api"
	"photonmesh/desk"
	"photonmesh/mesh"
)

// notPages are numbers of pages that no flash has.
var notPages = []int{-1, 0, 1, 65, 66, -2, -64, 1 << 32, 1<<32 + 2, math.MinInt, math.MinInt + 2, math.MaxInt}

// random returns the same numbers each time.
func random(seed int64) *rand.Rand { return rand.New(rand.NewSource(seed)) }

// call returns the text of a call with these arguments.
func call(name string, arguments ...any) string {
	text := name + "(" + strings.TrimSuffix(fmt.Sprintln(arguments...), "\n") + ")"
	if len(text) > 400 {
		return text[:400] + "..."
	}
	return text
}

// expect reports a call whose result or error are not the wanted ones.
func expect[T comparable](t *testing.T, call string, got T, e api.Errno, want T, err api.Errno) {
	t.Helper()
	if got != want || e != err {
		t.Errorf("%s = %v, %d; want %v, %d", call, got, e, want, err)
	}
}

// expectErr reports a call whose error is not the wanted one.
func expectErr(t *testing.T, call string, e, err api.Errno) {
	t.Helper()
	if e != err {
		t.Errorf("%s: error %d; want %d", call, e, err)
	}
}

// expectList reports a call whose list is not the wanted one.
func expectList[T comparable](t *testing.T, call string, l, want []T) {
	t.Helper()
	if !slices.Equal(l, want) {
		t.Errorf("%s = %v; want %v", call, l, want)
	}
}

// flashOf returns a flash with pages of these texts; those of "-" are free, those of "!" are broken.
func flashOf(t *testing.T, pages ...string) *desk.Flash {
	t.Helper()
	f := newFlash(t, len(pages))
	for at, text := range pages {
		switch text {
		case "-":
		case "!":
			f.Arm(1)
			expectErr(t, call("Write", at), f.Write(at, nil), api.ErrDown)
			f.Restart()
		default:
			expectErr(t, call("Write", at, text), f.Write(at, []byte(text)), api.OK)
		}
	}
	return f
}

// newFlash returns a flash whose pages are free.
func newFlash(t *testing.T, pages int) *desk.Flash {
	t.Helper()
	f, e := desk.NewFlash(pages)
	if f == nil || e != api.OK {
		t.Fatalf("NewFlash(%d) = %v, %d", pages, f, e)
	}
	return f
}

// openLog returns the log on a flash.
func openLog(t *testing.T, f *desk.Flash) *desk.Log {
	t.Helper()
	l, e := desk.OpenLog(f)
	if l == nil || e != api.OK {
		t.Fatalf("OpenLog: %v, %d", l, e)
	}
	return l
}

// openDesk returns the desk on a flash.
func openDesk(t *testing.T, f *desk.Flash) *desk.Desk {
	t.Helper()
	d, e := desk.Open(f)
	if d == nil || e != api.OK {
		t.Fatalf("Open: %v, %d", d, e)
	}
	return d
}

// texts returns entries as texts.
func texts(entries [][]byte) []string {
	var l []string
	for _, entry := range entries {
		l = append(l, string(entry))
	}
	return l
}

// held returns the text of a page that holds an entry with this number.
func held(number int, entry string) string {
	text := ""
	for range 4 {
		text = string([]byte{byte(number % 256)}) + text
		number /= 256
	}
	return text + entry
}

// contents returns what is on the pages of a flash, like the arguments of flashOf.
func contents(t *testing.T, f *desk.Flash) []string {
	t.Helper()
	var l []string
	for at, state := range f.Pages() {
		b, e := f.Read(at)
		switch state {
		case api.PageFree:
			l = append(l, "-")
			expectErr(t, call("Read", at), e, api.ErrPage)
		case api.PageBroken:
			l = append(l, "!")
			expectErr(t, call("Read", at), e, api.ErrPage)
		default:
			expect(t, call("state of page", at), state, e, api.PageFull, api.OK)
			l = append(l, string(b))
		}
	}
	return l
}

// noPower takes the power of a flash away, by breaking a page of it.
func noPower(t *testing.T, f *desk.Flash, at int) {
	t.Helper()
	f.Arm(1)
	expectErr(t, call("Erase", at), f.Erase(at), api.ErrDown)
}

// view is all that a desk shows.
type view struct {
	Lines []string
	Cells []api.Cell
	Grid  api.Grid
	Tests []api.Test
}

// seen returns what a desk shows, with empty lists as nil ones.
func seen(d *desk.Desk) view {
	v := view{Grid: d.Grid()}
	v.Lines = append(v.Lines, d.Lines()...)
	for _, c := range d.Cells() {
		v.Cells = append(v.Cells, api.Cell{Name: c.Name, Guides: c.Guides, Items: append([]api.Item(nil), c.Items...)})
	}
	v.Grid.Blocked = append([]api.XY(nil), v.Grid.Blocked...)
	for _, t := range d.Tests() {
		v.Tests = append(v.Tests, api.Test{Turned: append([]bool(nil), t.Turned...), In: t.In, Out: t.Out})
	}
	return v
}

// expectView reports a desk that does not show what is wanted.
func expectView(t *testing.T, call string, got, want view) {
	t.Helper()
	if !reflect.DeepEqual(got, want) {
		t.Errorf("%s: the desk shows %v; want %v", call, got, want)
	}
}

// emptyView is what a new desk shows.
func emptyView() view {
	return view{Grid: api.Grid{W: 20, H: 20, Move: 10, Bend: 5}}
}

// desked returns a desk on a flash of 64 pages, with these lines done.
func desked(t *testing.T, lines ...string) *desk.Desk {
	t.Helper()
	d := openDesk(t, newFlash(t, 64))
	for _, line := range lines {
		if _, e := d.Do(line); e != api.OK {
			t.Fatalf("Do(%q): error %d", line, e)
		}
	}
	return d
}

// expectDo does a line that has an answer.
func expectDo(t *testing.T, d *desk.Desk, line, want string) {
	t.Helper()
	answer, e := d.Do(line)
	expect(t, call("Do", line), answer, e, want, api.OK)
}

// expectWrong does a line that has an error, and reports it if the line has changed anything.
func expectWrong(t *testing.T, d *desk.Desk, line string, err api.Errno) {
	t.Helper()
	before := seen(d)
	answer, e := d.Do(line)
	expect(t, call("Do", line), answer, e, "", err)
	expectView(t, call("Do", line), seen(d), before)
}

// couplers returns the text of so many couplers, such as " c1; c1".
func couplers(count int) string {
	return strings.TrimSuffix(strings.Repeat(" c1;", count), ";")
}

// uses returns the text of so many uses of a cell.
func uses(name string, count int) string {
	return strings.TrimSuffix(strings.Repeat(" "+name+"@1;", count), ";")
}

// parsed returns the netlist of these lines.
func parsed(t *testing.T, lines ...string) []api.Cell {
	t.Helper()
	net, e := mesh.Parse(strings.Join(lines, "\n") + "\n")
	if e != api.OK {
		t.Fatalf("Parse(%q): error %d", lines, e)
	}
	return net
}

// netText returns the text of a desk's netlist, which may be empty.
func netText(d *desk.Desk) string {
	text, _ := mesh.Format(d.Cells())
	return text
}

// matrixOf returns the matrix of a cell of a desk.
func matrixOf(t *testing.T, d *desk.Desk, name string) api.Matrix {
	t.Helper()
	net := d.Cells()
	at := slices.IndexFunc(net, func(c api.Cell) bool { return c.Name == name })
	m, e := mesh.Matrix(net[:at+1])
	expectErr(t, call("Matrix", name), e, api.OK)
	return m
}

// sameMatrix reports whether two matrices are equal.
func sameMatrix(a, b api.Matrix) bool { return a.N == b.N && slices.Equal(a.E, b.E) }
