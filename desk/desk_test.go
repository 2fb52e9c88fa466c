package desk_test

import (
	"fmt"
	"math"
	"math/rand"
	"slices"
	"strings"
	"testing"

	"photonmesh/api"
	"photonmesh/desk"
)

// anyDeed returns the line of a deed, which may have an error; names are few, so that they are often there.
func anyDeed(r *rand.Rand) string {
	name := func() string { return string(rune('a' + r.Intn(12))) }
	switch r.Intn(7) {
	case 0, 1:
		n := 2 + r.Intn(3)
		line := fmt.Sprint("cell ", name(), " ", n, ":")
		for range r.Intn(6) {
			items := []string{fmt.Sprint(" c", 1+r.Intn(n-1)), fmt.Sprint(" x", 1+r.Intn(n-1)), fmt.Sprint(" p", 1+r.Intn(n), " ", 2*(1+r.Intn(3))), fmt.Sprint(" ", name(), "@1")}
			line += items[r.Intn(4)] + ";"
		}
		return strings.TrimSuffix(line, ";")
	case 2:
		line := "permute " + name()
		for _, k := range r.Perm(1 + r.Intn(4)) {
			line += fmt.Sprint(" ", k)
		}
		return line
	case 3, 4:
		return "invert " + name() + " " + name()
	case 5:
		return fmt.Sprint("block ", r.Intn(22), " ", r.Intn(3))
	}
	return fmt.Sprintf("test %06b %d %d", r.Intn(64), r.Intn(4), r.Intn(4))
}

// anyLine returns any line: a deed, a question, or none.
func anyLine(r *rand.Rand) string {
	name := func() string { return string(rune('a' + r.Intn(12))) }
	switch r.Intn(12) {
	case 0:
		return "same " + name() + " " + name()
	case 1:
		return fmt.Sprint("chance ", name(), " ", 10+r.Intn(3), " ", 10+r.Intn(3))
	case 2:
		return fmt.Sprint("route ", r.Intn(21), " ", r.Intn(3), " ", r.Intn(20), " ", r.Intn(3))
	case 3:
		return "least " + name()
	case 4:
		return []string{"", "least", "cell", "cell a", "block 1", "test 0 0 0", "permute Q 0", "same  a b", "block 1 1\n", strings.Repeat("x", 300)}[r.Intn(10)]
	}
	return anyDeed(r)
}

// isDeed reports whether a line begins like a deed.
func isDeed(line string) bool {
	word, _, _ := strings.Cut(line, " ")
	return slices.Contains([]string{"cell", "permute", "invert", "block", "test"}, word)
}

// The examples of the chapter.
func TestExamples(t *testing.T) {
	answers, e := desk.Play(8, []string{"cell a 2: c1", "cell b 2: c1; c1", "invert c a", "chance a 11 20"})
	expectErr(t, "Play", e, api.OK)
	expectList(t, "answers", answers, []string{"ok", "ok", "3", "1 2"})
	answers, e = desk.Play(8, []string{"permute p 2 0 1", "route 0 0 3 2"})
	expectErr(t, "Play", e, api.OK)
	expectList(t, "answers", answers, []string{"2", "55"})
}

// P10.3 and P10.4: lines that are of no form.
func TestNoCommands(t *testing.T) {
	d := desked(t, "cell a 2: c1", "cell b 2:", "block 5 5", "test 000000 0 0")
	for _, line := range []string{
		"", " ", "  ", "\n", "\xff", "é", "help", "ok", "a", "cells", "a cell", "cell a 2: c1 \n",
		"cell", "cell ", "cell  ", "cell c", "cell  2: c1", "cell  c 2: c1", " cell c 2: c1", "cell C 2: c1", "cell c1 2: c1", "cell c: c1", "cell abcdefghi 2: c1", "cell é 2: c1", "cell c\t2: c1", "cell\tc 2: c1", "Cell c 2: c1", "cellc 2: c1", "cell ` 2:", "cell { 2:", "cell \xff 2:",
		"cell c 2: c1\n", "\ncell c 2: c1", "cell c 2:\ncell d 2:", "cell\nc 2: c1", "cell c\n 2: c1",
		"permute", "permute ", "permute p", "permute p ", "permute p 0 ", "permute  p 0", "permute p  0", " permute p 0", "permute p 00", "permute p 01 0", "permute p 0 01", "permute p 1 0 00", "permute p +0", "permute p -1", "permute p 0.0", "permute p x", "permute p 0 x", "permute p 0x0", "permute p 1234567", "permute p 0 1000000", "permute p ０", "permute p ٠", "permute p 0\n", "permute p 0,1", "permute p 1_0", "permute\tp 0", "Permute p 0", "permute p 0\t1", "permute P x", "permute  0 1",
		"invert", "invert c", "invert c ", "invert c a ", "invert c a b", "invert  c a", "invert c  a", "invert  a", " invert c a", "invert c a\n", "Invert c a",
		"block", "block 1", "block 1 ", "block 1 2 ", "block 1 2 3", "block  1 2", "block 1  2", "block 01 2", "block 1 02", "block -1 2", "block 1 +2", "block 1 x", "block x 1", "block 1234567 1", "block 1 0000001", "block 1 \xff", "block 1 2\n", "block 1 2\r", "block 1 ²", "block 1,2",
		"test", "test 000000", "test 000000 0", "test 000000 0 ", "test 000000 0 0 ", "test 000000 0 0 0", "test 00000 0 0", "test 0000000 0 0", "test 000002 0 0", "test 00000x 0 0", "test 0 0 0", "test  0 0", "test 000000 00 0", "test 000000 0 01", "test 000000 -1 0", "test ００ 0 0", "test 00000/ 0 0",
		"same", "same a", "same a ", "same a a ", "same a a a", "same  a a", "same a  a", "same  a", " same a a", "same a a\n",
		"chance", "chance a", "chance a 11", "chance a 11 ", "chance a 11 20 ", "chance a 11 20 1", "chance a 1x 20", "chance a 11 x0", "chance a -11 20", "chance a 1,1 2,0", "chance  11 20", "chance a  11 20", "chance a 1１ 20", "chance a 1: 20", "chance a 1/ 20", "chance a 11 20\n",
		"route", "route 0 0 3", "route 0 0 3 ", "route 0 0 3 2 ", "route 0 0 3 2 1", "route 0 0 3 02", "route 00 0 3 2", "route 0 00 3 2", "route 0 0 03 2", "route 0 x 3 2", "route 0 0 x 2", "route x 0 3 2", "route 0 0 -3 2", "route 0 0 3 x", "route 0 0 3 1234567", "route  0 0 3 2", "route 0 0 3\n2",
		"least", "least ", "least a ", "least  a", "least a b", " least a", "least a\n", "LEAST a", "leastt a",
	} {
		expectWrong(t, d, line, api.ErrCommand)
	}
}

// P10.3: the order of errors.
func TestDoErrors(t *testing.T) {
	for _, d := range []*desk.Desk{nil, {}} {
		for _, line := range []string{"cell a 2: c1", "route 0 0 1 1", "", "help"} {
			answer, e := d.Do(line)
			expect(t, call("Do", line), answer, e, "", api.ErrDown)
		}
	}
	f := newFlash(t, 2)
	d := openDesk(t, f)
	expectDo(t, d, "cell a 2: c1", "ok")
	expectDo(t, d, "block 0 0", "ok")
	expectWrong(t, d, "block 0 1", api.ErrFull)
	expectWrong(t, d, "block 0 0", api.ErrThere)
	expectWrong(t, d, "block 0", api.ErrCommand)
	expectDo(t, d, "least a", "1 1")
	noPower(t, f, 1)
	// The log does not know of the loss yet.
	expectDo(t, d, "least a", "1 1")
	expectWrong(t, d, "block 0 0", api.ErrThere)
	expectWrong(t, d, "block 0", api.ErrCommand)
	expectWrong(t, d, "block 0 1", api.ErrDown)
	for range 2 {
		for _, line := range []string{"block 0 1", "block 0 0", "least a", "", "help", strings.Repeat("x", 300)} {
			expectWrong(t, d, line, api.ErrDead)
		}
		f.Restart()
	}
	expectView(t, "the dead desk", seen(d), view{Lines: []string{"cell a 2: c1", "block 0 0"}, Cells: parsed(t, "cell a 2: c1"), Grid: api.Grid{W: 20, H: 20, Move: 10, Bend: 5, Blocked: []api.XY{{}}}})
}

// P10.3: power that is lost while a line is put, for each deed.
func TestDoLoses(t *testing.T) {
	for _, line := range []string{"cell b 2: c1", "permute b 1 0", "invert b a", "block 1 1", "test 111111 3 3"} {
		f := newFlash(t, 3)
		d := openDesk(t, f)
		expectDo(t, d, "cell a 2: c1", "ok")
		f.Arm(1)
		expectWrong(t, d, line, api.ErrDown)
		expectWrong(t, d, line, api.ErrDead)
		expectWrong(t, d, "least a", api.ErrDead)
		f.Restart()
		again := openDesk(t, f)
		expectView(t, "the desk behind the loss", seen(again), seen(d))
		_, e := again.Do(line)
		expectErr(t, call("Do", line), e, api.OK)
		expectList(t, "contents", contents(t, f), []string{held(1, "cell a 2: c1"), "!", held(2, line)})
	}
}

// P10.3: questions, and lines with errors, write nothing.
func TestQuestionsWriteNothing(t *testing.T) {
	f := newFlash(t, 4)
	d := openDesk(t, f)
	expectDo(t, d, "cell a 2: c1", "ok")
	f.Arm(1)
	for _, line := range []string{"same a a", "chance a 11 20", "route 0 0 1 1", "least a"} {
		_, e := d.Do(line)
		expectErr(t, call("Do", line), e, api.OK)
	}
	for line, err := range map[string]api.Errno{"cell a 2: c1": api.ErrThere, "permute b 0 0": api.ErrPerm, "invert b b": api.ErrNone, "block 20 1": api.ErrArg, "test 000000 4 0": api.ErrArg, "least b": api.ErrNone, "help": api.ErrCommand} {
		expectWrong(t, d, line, err)
	}
	expectList(t, "contents", contents(t, f), []string{held(1, "cell a 2: c1"), "-", "-", "-"})
	expectWrong(t, d, "block 1 1", api.ErrDown)
}

// P10.3: the desk on a flash whose pages were written.
func TestOpen(t *testing.T) {
	f := flashOf(t, held(2, "invert b a"), "!", held(1, "cell a 2: c1"), "-", held(3, "block 3 4"), held(4, "test 000000 0 0"), held(5, "permute c 1 0"), held(7, "help"))
	d := openDesk(t, f)
	want := view{Lines: []string{"cell a 2: c1", "invert b a", "block 3 4", "test 000000 0 0", "permute c 1 0"}, Cells: parsed(t, "cell a 2: c1", "cell b 2: p1 4; c1; p1 4", "cell c 2: x1"),
		Grid: api.Grid{W: 20, H: 20, Move: 10, Bend: 5, Blocked: []api.XY{{X: 3, Y: 4}}}, Tests: []api.Test{{Turned: make([]bool, 6)}}}
	expectView(t, "Open", seen(d), want)
	expectDo(t, d, "block 3 5", "ok")
	expect(t, "the page that is written", contents(t, f)[3], api.OK, held(6, "block 3 5"), api.OK)
	expectView(t, "Open of an empty flash", seen(openDesk(t, newFlash(t, 2))), emptyView())
	expectView(t, "Open without entries", seen(openDesk(t, flashOf(t, held(2, "help"), "x"))), emptyView())
}

// P10.3: Open writes nothing, and needs power.
func TestOpenErrors(t *testing.T) {
	for _, line := range []string{"", "help", "same a a", "route 0 0 1 1", "least a", "chance a 11 20", "cell a 2: c1", "cell A 2:", "cell b", "cell b 3: c9", "permute b 1", "permute B 0", "invert b c", "block 20 0", "test 000000 4 0", "block 0 0\n", "block 0 0 ", "\xff", strings.Repeat("x", 200)} {
		pages := []string{held(1, "cell a 2: c1"), held(2, line), held(3, "block 0 0"), "-"}
		f := flashOf(t, pages...)
		f.Arm(1)
		d, e := desk.Open(f)
		expect(t, call("Open", line), d, e, nil, api.ErrForm)
		expectList(t, "contents behind Open", contents(t, f), pages)
		expectErr(t, "the armed Erase", f.Erase(3), api.ErrDown)
		d, e = desk.Open(f)
		expect(t, "Open without power", d, e, nil, api.ErrDown)
	}
	for _, pages := range [][]string{{held(1, "help"), "-"}, {held(1, "route 0 0 1 1"), "-"}, {held(1, "block 0 0"), held(2, "block 0 0")}, {held(1, "test 000000 0 0"), held(2, "test 000000 0 1")}} {
		d, e := desk.Open(flashOf(t, pages...))
		expect(t, call("Open", pages), d, e, nil, api.ErrForm)
	}
}

// P10.6: a nil desk, and the zero value, show nothing.
func TestNoDesk(t *testing.T) {
	for _, d := range []*desk.Desk{nil, {}} {
		expectView(t, "no desk", seen(d), view{})
	}
}

// P10.6
func TestPlay(t *testing.T) {
	lines := []string{"cell a 2: c1", "cell a 2: c1", "help", "least a", "block 1 1", "block 1 1", "permute p 0 0", "invert p q", "block 99 0", "block 2 2", "route 1 1 0 0", "block 2 2", "cell b 2: x1; a@1", "permute r 6 5 4 3 2 1 0", "chance a 1 1"}
	answers, e := desk.Play(3, lines)
	expectErr(t, "Play", e, api.OK)
	expectList(t, "answers", answers, []string{"ok", "error 6", "error 100", "1 1", "ok", "error 6", "error 40", "error 5", "error 2", "ok", "error 72", "error 6", "error 104", "error 4", "error 21"})
	for _, pages := range []int{2, 64} {
		for _, count := range []int{0, 1, 99, 100} {
			answers, e := desk.Play(pages, slices.Repeat([]string{"route 0 0 0 1"}, count))
			expectErr(t, "Play", e, api.OK)
			expectList(t, call("Play", pages, count), answers, slices.Repeat([]string{"10"}, count))
		}
		for _, count := range []int{101, 1000} {
			answers, e = desk.Play(pages, make([]string, count))
			expect(t, call("Play", pages, count), len(answers), e, 0, api.ErrLimit)
		}
	}
	for _, pages := range append(notPages, math.MinInt) {
		for _, count := range []int{0, 1, 101} {
			answers, e = desk.Play(pages, make([]string, count))
			expect(t, call("Play", pages, count), len(answers), e, 0, api.ErrArg)
		}
	}
}

// P10.8: Open on the flash gives the same desk; errors and questions change nothing; Play gives the same answers.
func TestReplays(t *testing.T) {
	r := random(9)
	for range 60 {
		pages := 2 + r.Intn(63)
		f := newFlash(t, pages)
		d := openDesk(t, f)
		var lines, answers []string
		for range 100 {
			line := anyLine(r)
			before, onPages := seen(d), contents(t, f)
			answer, e := d.Do(line)
			now := seen(d)
			if e == api.OK && isDeed(line) {
				expectList(t, call("Lines behind", line), now.Lines, append(before.Lines, line))
				expect(t, call("page behind", line), contents(t, f)[len(before.Lines)], api.OK, held(len(now.Lines), line), api.OK)
			} else {
				expectView(t, call("Do", line), now, before)
				expectList(t, "contents", contents(t, f), onPages)
			}
			if e != api.OK {
				expect(t, call("Do", line), answer, api.OK, "", api.OK)
				answer = fmt.Sprint("error ", int(e))
			}
			lines, answers = append(lines, line), append(answers, answer)
			if r.Intn(10) == 0 {
				expectView(t, "the desk of a copy", seen(openDesk(t, f.Copy())), now)
			}
			if r.Intn(20) == 0 {
				f.Restart()
				d = openDesk(t, f)
				expectView(t, "the desk behind Restart", seen(d), now)
			}
		}
		played, e := desk.Play(pages, lines)
		expectErr(t, "Play", e, api.OK)
		expectList(t, "Play", played, answers)
	}
}

// P10.9: what was answered survives losses of power, and nothing else does.
func TestSafety(t *testing.T) {
	r := random(10)
	for range 100 {
		f := newFlash(t, 64)
		d := openDesk(t, f)
		known := seen(d)
		for range 60 {
			if r.Intn(4) == 0 {
				f.Arm(r.Intn(4))
			}
			line := anyDeed(r)
			_, e := d.Do(line)
			switch e {
			case api.OK:
				known = seen(d)
				expect(t, "the last line", known.Lines[len(known.Lines)-1], api.OK, line, api.OK)
			case api.ErrDown:
				f.Restart()
				d = openDesk(t, f)
				if r.Intn(3) == 0 {
					_, e := openLog(t, f).Clean()
					expectErr(t, "Clean", e, api.OK)
					d = openDesk(t, f)
				}
			}
			expectView(t, call("Do", line), seen(d), known)
		}
	}
}

// R4: lines are not kept, and results are new memory.
func TestResultsAreTheCallers(t *testing.T) {
	d := desked(t, "cell a 2: c1; x1", "cell b 3: a@1", "invert c b", "permute d 1 2 0", "block 1 2", "block 3 4", "test 100000 0 2", "test 000000 0 0")
	want := seen(d)
	for range 2 {
		for i, line := range d.Lines() {
			l := d.Lines()
			l[i] = line + "x"
			_ = append(l[:i], "x")
		}
		cells := d.Cells()
		for i := range cells {
			for k := range cells[i].Items {
				cells[i].Items[k] = cross(5)
			}
			_ = append(cells[i].Items, slices.Repeat([]api.Item{cross(5)}, 20)...)
			cells[i].Name = "z"
		}
		blocked := d.Grid().Blocked
		for i := range blocked {
			blocked[i] = api.XY{X: 9, Y: 9}
		}
		tests := d.Tests()
		for i := range tests {
			for s := range tests[i].Turned {
				tests[i].Turned[s] = !tests[i].Turned[s]
			}
			_ = append(tests[i].Turned, true, true, true)
			tests[i].In = 3
		}
		expectView(t, "behind changes of results", seen(d), want)
		expectDo(t, d, "same a a", "yes")
	}
	expectWrong(t, d, "block 1 2", api.ErrThere)
	expectDo(t, d, "block 9 9", "ok")
}
