package desk_test

import (
	"slices"
	"strings"
	"testing"

	"photonmesh/api"
	"photonmesh/desk"
)

// P10.2: which pages hold entries, and which of them are those of the log.
func TestOpenLog(t *testing.T) {
	long := strings.Repeat("x", 200)
	for _, c := range []struct{ pages, want []string }{
		{[]string{"-", "-"}, nil},
		{[]string{"!", "!"}, nil},
		{[]string{held(1, "a"), "-"}, []string{"a"}},
		{[]string{"-", held(1, "a")}, []string{"a"}},
		{[]string{held(1, "a"), held(2, "b"), held(3, "c")}, []string{"a", "b", "c"}},
		{[]string{held(3, "c"), "!", held(1, "a"), "-", held(2, "b")}, []string{"a", "b", "c"}},
		{[]string{held(2, "b"), held(3, "c")}, nil},
		{[]string{held(1, "a"), held(3, "c"), held(4, "d")}, []string{"a"}},
		{[]string{held(1, "a"), held(1, "b")}, []string{"a"}},
		{[]string{held(2, "c"), held(1, "b"), held(1, "a"), held(2, "d")}, []string{"b", "c"}},
		{[]string{held(1, ""), held(2, ""), held(3, "c")}, []string{"", "", "c"}},
		{[]string{held(1, long), held(2, "b")}, []string{long, "b"}},
		{[]string{held(1, long+"x"), held(2, "b")}, nil},
		{[]string{held(1, "a"), held(2, long+"x"), held(2, "b")}, []string{"a", "b"}},
		{[]string{"", held(1, "a"), "\x00\x00\x02", held(2, "b")}, []string{"a", "b"}},
		{[]string{"\x00\x00\x00", "\x00\x00\x01", "\x01", "\x00\x01"}, nil},
		{[]string{held(0, "z"), held(1, "a")}, []string{"a"}},
		{[]string{held(1, "a"), held(2+256, "b"), held(2+1<<16, "c"), held(2+1<<24, "d"), "\x02\x00\x00\x00b"}, []string{"a"}},
		{[]string{held(1000000000, "a"), held(1000000001, "b"), held(1<<32-1, "c"), held(1<<31+1, "d")}, nil},
		{[]string{held(1, "\x00\xff\n"), held(2, held(1, "a"))}, []string{"\x00\xff\n", held(1, "a")}},
	} {
		f := flashOf(t, c.pages...)
		l := openLog(t, f)
		expectList(t, call("Entries of", c.pages), texts(l.Entries()), c.want)
		expect(t, "Dead", l.Dead(), api.OK, false, api.OK)
		expectList(t, "contents behind OpenLog", contents(t, f), c.pages)
	}
}

// P10.2: a log of all pages.
func TestLongLog(t *testing.T) {
	f := newFlash(t, 64)
	l := openLog(t, f)
	var want []string
	for k := range 64 {
		entry := strings.Repeat("e", k)
		expectErr(t, call("Put", k), l.Put([]byte(entry)), api.OK)
		want = append(want, entry)
	}
	expectErr(t, "Put", l.Put(nil), api.ErrFull)
	expectList(t, "Entries", texts(l.Entries()), want)
	expectList(t, "Entries of another log", texts(openLog(t, f).Entries()), want)
}

// P10.2: opening a log neither writes nor erases, nor does a copy of the flash change.
func TestOpenLogOnlyReads(t *testing.T) {
	f := flashOf(t, held(1, "a"), "!", "-", held(1, "b"))
	f.Arm(1)
	first := openLog(t, f)
	for range 5 {
		expectList(t, "Entries", texts(openLog(t, f).Entries()), []string{"a"})
	}
	expect(t, "Dead", first.Dead(), api.OK, false, api.OK)
	expectErr(t, "the armed Write", f.Write(2, nil), api.ErrDown)
	l, e := desk.OpenLog(f)
	expect(t, "OpenLog without power", l, e, nil, api.ErrDown)
}

// P10.2: an entry goes into the lowest free page, with one Write.
func TestPut(t *testing.T) {
	f := flashOf(t, "other", "-", "!", held(1, "a"), "-", "-", "-")
	l := openLog(t, f)
	long := strings.Repeat("x", 200)
	f.Arm(4)
	for _, entry := range []string{"b", "", long} {
		expectErr(t, call("Put", entry), l.Put([]byte(entry)), api.OK)
	}
	expectList(t, "contents", contents(t, f), []string{"other", held(2, "b"), "!", held(1, "a"), held(3, ""), held(4, long), "-"})
	expectList(t, "Entries", texts(l.Entries()), []string{"a", "b", "", long})
	expectErr(t, "the armed Write", f.Write(6, nil), api.ErrDown)
}

// P10.2: pages that become free or full beside the log count as they are when Put is called.
func TestPutSeesPages(t *testing.T) {
	f := flashOf(t, "x", "-", "y", "-")
	l := openLog(t, f)
	expectErr(t, "Put", l.Put([]byte("a")), api.OK)
	expectErr(t, "Erase", f.Erase(0), api.OK)
	expectErr(t, "Write", f.Write(3, []byte("z")), api.OK)
	expectErr(t, "Put", l.Put([]byte("b")), api.OK)
	expectErr(t, "Put", l.Put([]byte("c")), api.ErrFull)
	expectList(t, "contents", contents(t, f), []string{held(2, "b"), held(1, "a"), "y", "z"})
	expectErr(t, "Erase", f.Erase(2), api.OK)
	expectErr(t, "Put", l.Put([]byte("c")), api.OK)
	expectList(t, "Entries", texts(l.Entries()), []string{"a", "b", "c"})
}

// P10.2: the order of the errors of Put.
func TestPutErrors(t *testing.T) {
	long := make([]byte, 201)
	f := flashOf(t, "x", "!")
	l := openLog(t, f)
	expectErr(t, "Put of a long entry", l.Put(long), api.ErrArg)
	expectErr(t, "Put of a very long entry", l.Put(make([]byte, 100000)), api.ErrArg)
	expectErr(t, "Put into a full flash", l.Put(nil), api.ErrFull)
	expect(t, "Dead behind ErrFull", l.Dead(), api.OK, false, api.OK)
	noPower(t, f, 0)
	expect(t, "Dead without power", l.Dead(), api.OK, false, api.OK)
	expectErr(t, "Put of a long entry without power", l.Put(long), api.ErrArg)
	expect(t, "Dead behind ErrArg", l.Dead(), api.OK, false, api.OK)
	expectErr(t, "Put without power", l.Put(nil), api.ErrDown)
	expect(t, "Dead behind ErrDown", l.Dead(), api.OK, true, api.OK)
	for range 2 {
		expectErr(t, "Put of a dead log", l.Put(nil), api.ErrDead)
		expectErr(t, "Put of a long entry of a dead log", l.Put(long), api.ErrDead)
		n, e := l.Clean()
		expect(t, "Clean of a dead log", n, e, 0, api.ErrDead)
		expect(t, "Dead", l.Dead(), api.OK, true, api.OK)
		f.Restart()
	}
	expectList(t, "contents", contents(t, f), []string{"!", "!"})
}

// P10.2: the log keeps its entries when power is lost while it writes.
func TestPutLoses(t *testing.T) {
	f := newFlash(t, 3)
	l := openLog(t, f)
	expectErr(t, "Put", l.Put([]byte("a")), api.OK)
	f.Arm(1)
	expectErr(t, "Put that fails", l.Put([]byte("b")), api.ErrDown)
	expectList(t, "Entries behind the loss", texts(l.Entries()), []string{"a"})
	expect(t, "Dead behind the loss", l.Dead(), api.OK, true, api.OK)
	f.Restart()
	expectList(t, "contents behind the loss", contents(t, f), []string{held(1, "a"), "!", "-"})
	expectErr(t, "Put of the dead log", l.Put([]byte("b")), api.ErrDead)
	other := openLog(t, f)
	expectErr(t, "Put of another log", other.Put([]byte("c")), api.OK)
	expectList(t, "contents", contents(t, f), []string{held(1, "a"), "!", held(2, "c")})
	expectList(t, "Entries of the dead log", texts(l.Entries()), []string{"a"})
}

// P10.2: broken pages are erased, from the lowest one on.
func TestClean(t *testing.T) {
	pages := []string{"!", held(1, "a"), "!", "-", "!", "x"}
	for n := range 5 {
		f := flashOf(t, pages...)
		l := openLog(t, f)
		f.Arm(n)
		count, e := l.Clean()
		want := slices.Clone(pages)
		for k, at := range []int{0, 2, 4} {
			if n == 0 || n > k+1 {
				want[at] = "-"
			}
		}
		fails := n > 0 && n < 4
		if fails {
			expect(t, call("Clean behind Arm", n), count, e, 0, api.ErrDown)
			f.Restart()
		} else {
			expect(t, call("Clean behind Arm", n), count, e, 3, api.OK)
		}
		expect(t, call("Dead behind Arm", n), l.Dead(), api.OK, fails, api.OK)
		expectList(t, call("contents behind Arm", n), contents(t, f), want)
		expectList(t, "Entries", texts(l.Entries()), []string{"a"})
	}
}

// P10.2: Clean without broken pages, on a full flash, and without power.
func TestCleanErrors(t *testing.T) {
	f := flashOf(t, "x", held(1, "a"))
	l := openLog(t, f)
	f.Arm(1)
	n, e := l.Clean()
	expect(t, "Clean without broken pages", n, e, 0, api.OK)
	expectErr(t, "the armed Erase", f.Erase(0), api.ErrDown)
	expect(t, "Dead without power", l.Dead(), api.OK, false, api.OK)
	n, e = l.Clean()
	expect(t, "Clean without power", n, e, 0, api.ErrDown)
	expect(t, "Dead behind ErrDown", l.Dead(), api.OK, true, api.OK)
	f.Restart()
	n, e = l.Clean()
	expect(t, "Clean of a dead log", n, e, 0, api.ErrDead)
	l = openLog(t, f)
	n, e = l.Clean()
	expect(t, "Clean", n, e, 1, api.OK)
	expectErr(t, "Put behind Clean", l.Put([]byte("b")), api.OK)
	expectList(t, "contents", contents(t, f), []string{held(2, "b"), held(1, "a")})
}

// P10.1 and P10.2: a Restart ends all logs of its flash, also with power, and none of another one.
func TestRestartEndsLogs(t *testing.T) {
	f := newFlash(t, 4)
	first := openLog(t, f)
	expectErr(t, "Put", first.Put([]byte("a")), api.OK)
	g := f.Copy()
	beside, second := openLog(t, g), openLog(t, f)
	f.Restart()
	third := openLog(t, f)
	for _, l := range []*desk.Log{first, second} {
		expect(t, "Dead behind Restart", l.Dead(), api.OK, true, api.OK)
		expectErr(t, "Put behind Restart", l.Put(nil), api.ErrDead)
		expectList(t, "Entries behind Restart", texts(l.Entries()), []string{"a"})
	}
	for _, l := range []*desk.Log{beside, third} {
		expect(t, "Dead", l.Dead(), api.OK, false, api.OK)
		expectErr(t, "Put", l.Put([]byte("b")), api.OK)
	}
	f.Restart()
	expect(t, "Dead behind another Restart", third.Dead(), api.OK, true, api.OK)
	g.Restart()
	expect(t, "Dead behind Restart of the copy", beside.Dead(), api.OK, true, api.OK)
	expectList(t, "contents", contents(t, f), contents(t, g))
}

// P10.2 and R7: a nil log, and the zero value.
func TestNoLog(t *testing.T) {
	for _, l := range []*desk.Log{nil, {}} {
		expectList(t, "Entries", texts(l.Entries()), nil)
		expect(t, "Dead", l.Dead(), api.OK, true, api.OK)
		expectErr(t, "Put", l.Put(nil), api.ErrDown)
		expectErr(t, "Put of a long entry", l.Put(make([]byte, 201)), api.ErrDown)
		n, e := l.Clean()
		expect(t, "Clean", n, e, 0, api.ErrDown)
	}
}

// R4: entries are neither changed nor kept, and results are new memory.
func TestEntriesAreTheCallers(t *testing.T) {
	f := flashOf(t, held(1, "first"), "-", "-")
	l := openLog(t, f)
	b := []byte("secondthird")
	expectErr(t, "Put", l.Put(b[:6]), api.OK)
	expect(t, "the bytes behind Put", string(b), api.OK, "secondthird", api.OK)
	b[0] = 'x'
	for range 2 {
		entries := l.Entries()
		expectList(t, "Entries", texts(entries), []string{"first", "second"})
		for i := range entries {
			entries[i][1] = 'x'
			_ = append(entries[i], "xxxxxxxxxx"...)
		}
	}
	expectList(t, "contents", contents(t, f), []string{held(1, "first"), held(2, "second"), "-"})
}

// P10.9: a loss of power in any Write or Erase of puts and cleans; what was put is found.
func TestEveryLoss(t *testing.T) {
	for first := 1; first <= 20; first++ {
		for second := range 12 {
			f := newFlash(t, 24)
			f.Arm(first)
			l := openLog(t, f)
			var put []string
			losses := 0
			for k := range 18 {
				entry := string(rune('a' + k))
				e := l.Put([]byte(entry))
				if e == api.OK {
					put = append(put, entry)
				}
				if e == api.OK && k%4 == 3 {
					_, e = l.Clean()
				}
				if e == api.OK {
					continue
				}
				expectErr(t, "loss", e, api.ErrDown)
				losses++
				f.Restart()
				l = openLog(t, f)
				expectList(t, call("Entries behind a loss at", first), texts(l.Entries()), put)
				if losses == 1 {
					f.Arm(second)
				}
			}
			expectList(t, call("Entries with losses at", first, second), texts(l.Entries()), put)
			expectList(t, "Entries of another log", texts(openLog(t, f).Entries()), put)
			if first < 18 && losses == 0 {
				t.Errorf("no loss behind Arm(%d)", first)
			}
		}
	}
}

// P10.9: many losses, as long as pages are free; also of logs that are opened without a loss.
func TestManyLosses(t *testing.T) {
	r := random(2)
	for range 300 {
		f := newFlash(t, 2+r.Intn(63))
		l := openLog(t, f)
		var put []string
		for range 100 {
			if r.Intn(3) == 0 {
				f.Arm(r.Intn(4))
			}
			e := api.OK
			if r.Intn(4) == 0 {
				_, e = l.Clean()
			} else {
				entry := strings.Repeat("e", r.Intn(30)) + string(rune('a'+r.Intn(26)))
				if e = l.Put([]byte(entry)); e == api.OK {
					put = append(put, entry)
				}
			}
			switch {
			case e == api.ErrFull:
				expectErr(t, "free pages", api.Errno(slices.Index(f.Pages(), api.PageFree)), -1)
			case e == api.ErrDown:
				f.Restart()
				l = openLog(t, f)
			case e == api.OK && r.Intn(8) == 0:
				l = openLog(t, f)
			default:
				expectErr(t, "Put or Clean", e, api.OK)
			}
			expectList(t, "Entries", texts(l.Entries()), put)
		}
	}
}
