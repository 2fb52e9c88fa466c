package desk_test

import (
	"bytes"
	"math"
	"slices"
	"strings"
	"testing"

	"photonmesh/api"
	"photonmesh/desk"
)

// P10.1
func TestNewFlash(t *testing.T) {
	for pages := 2; pages <= 64; pages++ {
		f := newFlash(t, pages)
		expectList(t, call("Pages of", pages), f.Pages(), make([]int, pages))
	}
	for _, pages := range notPages {
		f, e := desk.NewFlash(pages)
		expect(t, call("NewFlash", pages), f, e, nil, api.ErrArg)
	}
}

// P10.1: what was written is read, until the page is erased.
func TestWriteReadErase(t *testing.T) {
	f := newFlash(t, 4)
	for at, text := range []string{"abc", "", "\x00\xff\n", strings.Repeat("x", 1000)} {
		expectErr(t, call("Write", at), f.Write(at, []byte(text)), api.OK)
		b, e := f.Read(at)
		expect(t, call("Read", at), string(b), e, text, api.OK)
	}
	expectList(t, "Pages", f.Pages(), []int{api.PageFull, api.PageFull, api.PageFull, api.PageFull})
	expectErr(t, "Write again", f.Write(1, []byte("d")), api.ErrPage)
	expectErr(t, "Erase", f.Erase(1), api.OK)
	expectErr(t, "Erase again", f.Erase(1), api.OK)
	expectList(t, "Pages", f.Pages(), []int{api.PageFull, api.PageFree, api.PageFull, api.PageFull})
	b, e := f.Read(1)
	expect(t, "Read of a free page", len(b), e, 0, api.ErrPage)
	expectErr(t, "Write behind Erase", f.Write(1, []byte("d")), api.OK)
	expectList(t, "contents", contents(t, f), []string{"abc", "d", "\x00\xff\n", strings.Repeat("x", 1000)})
}

// P10.1: the order of errors.
func TestFlashErrors(t *testing.T) {
	f := flashOf(t, "full", "-", "!")
	long := make([]byte, 1001)
	for _, at := range []int{-1, 3, 4, 64, math.MinInt, math.MaxInt, 1 << 32} {
		expectErr(t, call("Write", at), f.Write(at, nil), api.ErrArg)
		expectErr(t, call("Write of long bytes", at), f.Write(at, long), api.ErrArg)
		expectErr(t, call("Erase", at), f.Erase(at), api.ErrArg)
		b, e := f.Read(at)
		expect(t, call("Read", at), len(b), e, 0, api.ErrArg)
	}
	for at := range 3 {
		expectErr(t, call("Write of long bytes", at), f.Write(at, long), api.ErrArg)
		expectErr(t, call("Write of very long bytes", at), f.Write(at, make([]byte, 100000)), api.ErrArg)
	}
	for _, at := range []int{0, 2} {
		expectErr(t, call("Write", at), f.Write(at, nil), api.ErrPage)
	}
	for _, at := range []int{1, 2} {
		b, e := f.Read(at)
		expect(t, call("Read", at), len(b), e, 0, api.ErrPage)
	}
	expectList(t, "contents behind errors", contents(t, f), []string{"full", "-", "!"})
	noPower(t, f, 1)
	for _, at := range []int{0, 1, 2, 3, -1} {
		expectErr(t, call("Write", at), f.Write(at, long), api.ErrDown)
		expectErr(t, call("Erase", at), f.Erase(at), api.ErrDown)
		b, e := f.Read(at)
		expect(t, call("Read", at), len(b), e, 0, api.ErrDown)
	}
	expectList(t, "Pages without power", f.Pages(), nil)
	f.Restart()
	expectList(t, "contents behind Restart", contents(t, f), []string{"full", "!", "!"})
}

// P10.1: the call that fails is the n-th one that would have no error.
func TestArm(t *testing.T) {
	for n := 1; n <= 6; n++ {
		f := newFlash(t, 8)
		f.Arm(n)
		for k := 1; k < n; k++ {
			expectErr(t, "Write to no page", f.Write(8, nil), api.ErrArg)
			expectErr(t, "Write of long bytes", f.Write(7, make([]byte, 1001)), api.ErrArg)
			expectErr(t, "Erase of no page", f.Erase(-1), api.ErrArg)
			if k%2 == 1 {
				expectErr(t, call("Write", k), f.Write(k, []byte("a")), api.OK)
				expectErr(t, call("Write", k), f.Write(k, []byte("a")), api.ErrPage)
			} else {
				expectErr(t, call("Erase", k-1), f.Erase(k-1), api.OK)
			}
			_, _ = f.Read(1)
			_ = f.Pages()
		}
		expectErr(t, call("Write behind Arm", n), f.Write(0, []byte("b")), api.ErrDown)
		expectErr(t, "Write without power", f.Write(7, []byte("b")), api.ErrDown)
		expectList(t, "Pages without power", f.Pages(), nil)
		f.Restart()
		expect(t, "the page behind the loss", f.Pages()[0], api.OK, api.PageBroken, api.OK)
		expectErr(t, "Write of a broken page", f.Write(0, nil), api.ErrPage)
		for range 10 {
			expectErr(t, "Erase with nothing armed", f.Erase(0), api.OK)
		}
		expect(t, "the page behind Erase", f.Pages()[0], api.OK, api.PageFree, api.OK)
	}
}

// P10.1: any page that is erased while power is lost becomes broken.
func TestArmedErase(t *testing.T) {
	for at := range 3 {
		f := flashOf(t, "full", "-", "!")
		f.Arm(1)
		expectErr(t, call("Erase", at), f.Erase(at), api.ErrDown)
		f.Restart()
		want := []string{"full", "-", "!"}
		want[at] = "!"
		expectList(t, call("contents behind the loss at", at), contents(t, f), want)
	}
}

// P10.1: what is armed later counts alone; numbers below 1 and Restart arm nothing.
func TestArmAgain(t *testing.T) {
	for _, n := range []int{0, -1, math.MinInt, math.MaxInt} {
		f := newFlash(t, 2)
		f.Arm(1)
		f.Arm(n)
		for range 20 {
			expectErr(t, call("Erase behind Arm", n), f.Erase(0), api.OK)
		}
	}
	f := newFlash(t, 2)
	f.Arm(3)
	expectErr(t, "Erase", f.Erase(0), api.OK)
	f.Arm(2)
	expectErr(t, "Erase behind another Arm", f.Erase(0), api.OK)
	expectErr(t, "second Erase behind another Arm", f.Erase(0), api.ErrDown)
	f.Arm(1)
	f.Restart()
	expectErr(t, "Erase behind Restart", f.Erase(0), api.OK)
	f.Arm(1)
	f.Restart()
	f.Restart()
	expectErr(t, "Erase behind Restart with power", f.Erase(0), api.OK)
}

// P10.1: a copy has the same pages and power, and the same is armed; then both go their own ways.
func TestCopy(t *testing.T) {
	f := flashOf(t, "one", "-", "!")
	f.Arm(2)
	g := f.Copy()
	expectErr(t, "Erase of the first", f.Erase(0), api.OK)
	expectList(t, "contents of the copy", contents(t, g), []string{"one", "-", "!"})
	expectErr(t, "first Write of the copy", g.Write(1, []byte("two")), api.OK)
	expectErr(t, "second Write of the copy", g.Erase(2), api.ErrDown)
	expectList(t, "contents of the first", contents(t, f), []string{"-", "-", "!"})
	h := g.Copy()
	expectList(t, "Pages of a copy without power", h.Pages(), nil)
	h.Restart()
	expectList(t, "Pages of the one without power", g.Pages(), nil)
	expectList(t, "contents of the copy behind Restart", contents(t, h), []string{"one", "two", "!"})
	expectErr(t, "second Erase of the first", f.Erase(0), api.ErrDown)
	expectErr(t, "Erase of the copy", h.Erase(0), api.OK)
}

// P10.1 and R7: a nil flash, and the zero value, also behind Restart.
func TestNoFlash(t *testing.T) {
	for _, f := range []*desk.Flash{nil, {}} {
		for range 2 {
			f.Arm(1)
			expectList(t, "Pages", f.Pages(), nil)
			expectErr(t, "Write", f.Write(0, nil), api.ErrDown)
			expectErr(t, "Erase", f.Erase(0), api.ErrDown)
			expectErr(t, "Write to no page", f.Write(-1, make([]byte, 2000)), api.ErrDown)
			b, e := f.Read(0)
			expect(t, "Read", len(b), e, 0, api.ErrDown)
			expect(t, "Copy", f.Copy(), api.OK, nil, api.OK)
			l, e := desk.OpenLog(f)
			expect(t, "OpenLog", l, e, nil, api.ErrDown)
			d, e := desk.Open(f)
			expect(t, "Open", d, e, nil, api.ErrDown)
			f.Restart()
		}
	}
}

// R4: bytes are neither changed nor kept, and results are new memory.
func TestBytesAreTheCallers(t *testing.T) {
	f := newFlash(t, 2)
	b := []byte("abcdef")
	expectErr(t, "Write", f.Write(0, b[:3]), api.OK)
	expect(t, "the bytes behind Write", string(b), api.OK, "abcdef", api.OK)
	b[0] = 'x'
	got, _ := f.Read(0)
	expect(t, "Read behind a change of what was written", string(got), api.OK, "abc", api.OK)
	got[1] = 'x'
	g := f.Copy()
	for _, flash := range []*desk.Flash{f, g} {
		got, _ = flash.Read(0)
		expect(t, "Read behind a change of what was read", string(got), api.OK, "abc", api.OK)
		got[2] = 'x'
	}
	states := f.Pages()
	states[0] = api.PageBroken
	expectList(t, "Pages behind a change of them", f.Pages(), []int{api.PageFull, api.PageFree})
}

// model is a flash by the document's words: the texts of its pages, as in flashOf, and how many calls go well until one fails.
type model struct {
	pages []string
	power bool
	well  int // -1 if nothing is armed
}

// change changes a page, or fails.
func (m *model) change(at int, text string) api.Errno {
	if m.well == 0 {
		m.pages[at], m.power, m.well = "!", false, -1
		return api.ErrDown
	}
	if m.well > 0 {
		m.well--
	}
	m.pages[at] = text
	return api.OK
}

// write writes to a page.
func (m *model) write(at int, b []byte) api.Errno {
	switch {
	case !m.power:
		return api.ErrDown
	case at < 0 || at >= len(m.pages) || len(b) > 1000:
		return api.ErrArg
	case m.pages[at] != "-":
		return api.ErrPage
	}
	return m.change(at, string(b))
}

// erase erases a page.
func (m *model) erase(at int) api.Errno {
	switch {
	case !m.power:
		return api.ErrDown
	case at < 0 || at >= len(m.pages):
		return api.ErrArg
	}
	return m.change(at, "-")
}

// restart gives power again.
func (m *model) restart() { m.power, m.well = true, -1 }

// P10.1: any calls in any order, on flashes and on copies of them.
func TestFlashLikeModel(t *testing.T) {
	r := random(1)
	for range 300 {
		f := newFlash(t, 2+r.Intn(5))
		m := &model{pages: slices.Repeat([]string{"-"}, len(f.Pages()))}
		m.restart()
		for range 60 {
			at := r.Intn(len(m.pages)+2) - 1
			switch r.Intn(8) {
			case 0, 1, 2:
				b := bytes.Repeat([]byte{byte('a' + r.Intn(26))}, []int{0, 1, 5, 1000, 1001}[r.Intn(5)])
				expectErr(t, call("Write", at, len(b)), f.Write(at, b), m.write(at, b))
			case 3, 4:
				expectErr(t, call("Erase", at), f.Erase(at), m.erase(at))
			case 5:
				n := r.Intn(6) - 1
				f.Arm(n)
				if m.well = -1; m.power && n > 0 {
					m.well = n - 1
				}
			case 6:
				f = f.Copy()
			case 7:
				if r.Intn(2) == 0 {
					f.Restart()
					m.restart()
				}
			}
			want := m.pages
			if !m.power {
				want = nil
			}
			expectList(t, "contents", contents(t, f), want)
		}
	}
}
