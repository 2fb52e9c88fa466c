package probe_test

import (
	"math"
	"slices"
	"sync"
	"testing"

	"photonmesh/api"
	"photonmesh/benes"
	"photonmesh/probe"
)

// P9.4
func TestStates(t *testing.T) {
	for n, want := range map[int]int{2: 2, 4: 64} {
		all, e := probe.States(n)
		expect(t, call("States", n), all, e, want, api.OK)
	}
	for _, n := range notPorts {
		all, e := probe.States(n)
		expect(t, call("States", n), all, e, 0, api.ErrArg)
	}
}

// P9.4: followed by hand. Switches: first 0, first 1, last 0, last 1, upper, lower.
func TestAnswer(t *testing.T) {
	for _, c := range []struct {
		n, state int
		turned   []bool
		want     []int
	}{
		{2, 0, bits("0"), []int{0, 1}}, {2, 1, bits("0"), []int{1, 0}}, {2, 0, bits("1"), []int{1, 0}}, {2, 1, bits("1"), []int{0, 1}},
		{4, 0, bits("00 00 0 0"), []int{0, 1, 2, 3}}, {4, 1, bits("00 00 0 0"), []int{1, 0, 2, 3}}, {4, 2, bits("00 00 0 0"), []int{0, 1, 3, 2}}, {4, 4, bits("00 00 0 0"), []int{1, 0, 2, 3}}, {4, 8, bits("00 00 0 0"), []int{0, 1, 3, 2}},
		{4, 16, bits("00 00 0 0"), []int{2, 1, 0, 3}}, {4, 32, bits("00 00 0 0"), []int{0, 3, 2, 1}}, {4, 0, bits("00 00 1 0"), []int{2, 1, 0, 3}}, {4, 16, bits("00 00 1 0"), []int{0, 1, 2, 3}}, {4, 32, bits("00 00 1 0"), []int{2, 3, 0, 1}},
		{4, 17, bits("00 00 0 0"), []int{1, 2, 0, 3}}, {4, 1, bits("00 00 1 0"), []int{1, 2, 0, 3}}, {4, 16, bits("10 00 0 0"), []int{1, 2, 0, 3}}, {4, 20, bits("00 00 0 0"), []int{2, 0, 1, 3}},
		{4, 63, bits("11 11 1 1"), []int{0, 1, 2, 3}}, {4, 63, bits("00 00 0 0"), []int{2, 3, 0, 1}}, {4, 63, bits("11 11 0 1"), []int{2, 1, 0, 3}},
	} {
		for in, want := range c.want {
			out, e := probe.Answer(c.n, c.state, c.turned, in)
			expect(t, call("Answer", c.n, c.state, c.turned, in), out, e, want, api.OK)
		}
	}
}

// P9.4 and P9.8: all states with all settings, by the document's words.
func TestAgrees(t *testing.T) {
	for _, n := range ports {
		for state := range states(n) {
			for number := range states(n) {
				for in := range n {
					turned := settings(n, number)
					want := comesOut(n, state, turned, in)
					out, e := probe.Answer(n, state, turned, in)
					expect(t, call("Answer", n, state, turned, in), out, e, want, api.OK)
					for out := range n {
						test := api.Test{Turned: turned, In: in, Out: out}
						is, e := probe.Agrees(n, state, test)
						expect(t, call("Agrees", n, state, test), is, e, out == want, api.OK)
					}
				}
			}
		}
	}
}

// P9.4: an answer is where the network of layer 8 sends the light.
func TestAnswersOfNetworks(t *testing.T) {
	for _, n := range ports {
		for state := range states(n) {
			perm, e := benes.Through(n, settings(n, state))
			if e != api.OK {
				t.Fatalf("Through(%d, %d): error %d", n, state, e)
			}
			for in, want := range perm {
				out, e := probe.Answer(n, state, settings(n, 0), in)
				expect(t, call("Answer", n, state, in), out, e, want, api.OK)
			}
		}
	}
}

// The document's second example, and P9.4: written out.
func TestLeft(t *testing.T) {
	for _, c := range []struct {
		n     int
		tests []api.Test
		want  []int
	}{
		{2, nil, []int{0, 1}}, {2, []api.Test{}, []int{0, 1}}, {2, []api.Test{try(2, 0, 0, 1)}, []int{1}}, {2, []api.Test{try(2, 0, 0, 0)}, []int{0}}, {2, []api.Test{try(2, 1, 1, 1)}, []int{1}},
		{2, []api.Test{try(2, 0, 0, 1), try(2, 1, 0, 0)}, []int{1}}, {2, []api.Test{try(2, 0, 0, 1), try(2, 0, 1, 1)}, nil},
		{4, nil, identity(64)},
		// Light of 0 comes out at 0: through the upper network, straight, or through the lower one.
		{4, []api.Test{try(4, 0, 0, 0)}, []int{0, 2, 5, 7, 8, 10, 13, 15, 21, 23, 29, 31, 32, 34, 40, 42}},
		// And that of the others at their outputs too.
		{4, []api.Test{try(4, 0, 0, 0), try(4, 0, 1, 1), try(4, 0, 2, 2), try(4, 0, 3, 3)}, []int{0, 5, 10, 15}},
		{4, []api.Test{try(4, 63, 0, 0), try(4, 63, 1, 1), try(4, 63, 2, 2), try(4, 63, 3, 3)}, []int{48, 53, 58, 63}},
		{4, []api.Test{try(4, 0, 0, 0), try(4, 0, 1, 0)}, nil}, {4, []api.Test{try(4, 0, 3, 1), try(4, 0, 3, 2)}, nil},
		{4, slices.Repeat([]api.Test{try(4, 0, 0, 0)}, 40), []int{0, 2, 5, 7, 8, 10, 13, 15, 21, 23, 29, 31, 32, 34, 40, 42}},
	} {
		left, e := probe.Left(c.n, c.tests)
		expectList(t, call("Left", c.n, c.tests), left, e, c.want, api.OK)
	}
}

// P9.4 and P9.8: what is left agrees with all tests, and one more test leaves a part of it.
func TestLeftByTests(t *testing.T) {
	r := random(5)
	for range 400 {
		n := ports[r.Intn(2)]
		state := r.Intn(states(n))
		tests := anyTests(r, n, r.Intn(41))
		if r.Intn(4) > 0 {
			tests = answered(n, state, tests)
		}
		want := identity(states(n))
		for k := range len(tests) + 1 {
			if k > 0 {
				want = agreeing(n, want, tests[k-1])
			}
			left, e := probe.Left(n, tests[:k])
			expectList(t, call("Left", n, tests[:k]), left, e, want, api.OK)
		}
	}
}

// P9.5: written out.
func TestParts(t *testing.T) {
	for _, c := range []struct {
		n      int
		l      []int
		turned []bool
		in     int
		want   []int
	}{
		{2, []int{0, 1}, bits("0"), 0, []int{1, 1}}, {2, []int{0}, bits("0"), 0, []int{1, 0}}, {2, []int{0}, bits("1"), 0, []int{0, 1}}, {2, []int{1}, bits("0"), 1, []int{1, 0}}, {2, nil, bits("1"), 1, []int{0, 0}},
		{4, identity(64), bits("00 00 0 0"), 0, []int{16, 16, 16, 16}}, {4, nil, bits("10 01 0 1"), 3, []int{0, 0, 0, 0}}, {4, []int{}, bits("00 00 0 0"), 0, []int{0, 0, 0, 0}},
		{4, []int{0, 1, 2, 4, 8, 16, 32}, bits("00 00 0 0"), 0, []int{4, 2, 1, 0}}, {4, []int{0, 1, 2, 4, 8, 16, 32}, bits("00 00 0 0"), 3, []int{0, 1, 2, 4}}, {4, []int{63}, bits("11 11 1 1"), 2, []int{0, 0, 1, 0}}, {4, []int{0, 63}, bits("00 00 0 0"), 1, []int{0, 1, 0, 1}},
	} {
		sizes, e := probe.Parts(c.n, c.l, c.turned, c.in)
		expectList(t, call("Parts", c.n, c.l, c.turned, c.in), sizes, e, c.want, api.OK)
	}
}

// P9.5 and P9.8: Parts add up to how many states there are.
func TestPartsOfStates(t *testing.T) {
	r := random(6)
	for range 3000 {
		n := ports[r.Intn(2)]
		l := anyStates(r, n)
		turned, in := settings(n, r.Intn(states(n))), r.Intn(n)
		sizes, e := probe.Parts(n, l, turned, in)
		expectList(t, call("Parts", n, l, turned, in), sizes, e, portions(n, l, turned, in), api.OK)
		sum := 0
		for _, size := range sizes {
			sum += size
		}
		expect(t, call("the sum of Parts", n, l, turned, in), sum, e, len(l), api.OK)
	}
}

// P9.5: written out.
func TestBest(t *testing.T) {
	straight := []api.Test{try(4, 0, 0, 0), try(4, 0, 1, 3), try(4, 0, 2, 2), try(4, 0, 3, 0)}
	for _, c := range []struct {
		n           int
		l           []int
		tries       []api.Test
		index, most int
		err         api.Errno
	}{
		{2, []int{0, 1}, []api.Test{try(2, 0, 0, 0)}, 0, 1, api.OK}, {2, []int{0, 1}, []api.Test{try(2, 0, 0, 0), try(2, 1, 1, 0)}, 0, 1, api.OK}, {2, []int{1}, []api.Test{try(2, 0, 0, 0), try(2, 1, 1, 0)}, 0, 1, api.OK},
		// Parts of 0, 1, 2 and 8: 3 and 1 of them, 3 and 1, 2 and 2, 2 and 2.
		{4, []int{0, 1, 2, 8}, straight, 2, 2, api.OK}, {4, []int{0, 1, 2, 8}, straight[:2], 0, 3, api.OK}, {4, []int{0, 2, 8}, straight, 2, 2, api.OK}, {4, []int{0, 2, 8}, straight[:2], 0, 3, api.OK}, {4, []int{0, 1}, straight, 0, 1, api.OK}, {4, []int{0, 1}, straight[2:], 0, 2, api.OK},
		{4, nil, straight, 0, 0, api.OK}, {4, []int{}, straight[3:], 0, 0, api.OK}, {4, []int{9}, straight, 0, 1, api.OK}, {4, identity(64), straight, 0, 16, api.OK},
		{4, identity(64), nil, 0, 0, api.ErrNone}, {4, nil, nil, 0, 0, api.ErrNone}, {2, []int{0}, []api.Test{}, 0, 0, api.ErrNone},
	} {
		index, most, e := probe.Best(c.n, c.l, c.tries)
		expect(t, call("Best", c.n, c.l, c.tries), [2]int{index, most}, e, [2]int{c.index, c.most}, c.err)
	}
}

// P9.5
func TestBestOfTries(t *testing.T) {
	r := random(7)
	times := map[int]int{}
	for range 2000 {
		n := ports[r.Intn(2)]
		l := anyStates(r, n)
		tries := anyTests(r, n, 1+r.Intn(40))
		want, size := bestOf(n, l, tries)
		index, most, e := probe.Best(n, l, tries)
		expect(t, call("Best", n, l, tries), [2]int{index, most}, e, [2]int{want, size}, api.OK)
		times[want]++
	}
	if len(times) < 15 {
		t.Errorf("indexes %v", times)
	}
}

// P9.5: written out.
func TestTwins(t *testing.T) {
	straight := []api.Test{try(4, 0, 0, 0), try(4, 0, 1, 0), try(4, 0, 2, 0), try(4, 0, 3, 0)}
	for _, c := range []struct {
		n     int
		l     []int
		tries []api.Test
		want  [][2]int
	}{
		{2, []int{0, 1}, nil, [][2]int{{0, 1}}}, {2, []int{0, 1}, []api.Test{try(2, 1, 0, 0)}, nil}, {2, []int{1}, nil, nil}, {2, nil, nil, nil},
		{4, []int{3, 7, 60}, nil, [][2]int{{3, 7}, {3, 60}, {7, 60}}}, {4, []int{0, 5, 10, 15}, straight, [][2]int{{0, 5}, {0, 10}, {0, 15}, {5, 10}, {5, 15}, {10, 15}}},
		{4, []int{0, 1, 2, 4, 8}, straight, [][2]int{{1, 4}, {2, 8}}}, {4, []int{0, 1, 2, 4, 8}, straight[:1], [][2]int{{0, 2}, {0, 8}, {1, 4}, {2, 8}}}, {4, []int{0, 1, 2, 16, 32}, straight, nil}, {4, nil, straight, nil}, {4, []int{}, nil, nil},
	} {
		pairs, e := probe.Twins(c.n, c.l, c.tries)
		expectList(t, call("Twins", c.n, c.l, c.tries), pairs, e, c.want, api.OK)
	}
}

// P9.5 and P9.9: two states that are no Twins are parted by a try.
func TestTwinsByTries(t *testing.T) {
	r := random(8)
	for range 600 {
		n := ports[r.Intn(2)]
		l := anyStates(r, n)
		tries := anyTests(r, n, r.Intn(41))
		pairs, e := probe.Twins(n, l, tries)
		expectList(t, call("Twins", n, l, tries), pairs, e, twinsOf(n, l, tries), api.OK)
	}
}

// P9.6: written out.
func TestFind(t *testing.T) {
	straight := []api.Test{try(4, 0, 0, 0), try(4, 0, 1, 3), try(4, 0, 2, 2), try(4, 0, 3, 0)}
	for _, c := range []struct {
		n, state     int
		tries, tests []api.Test
		left         []int
	}{
		{2, 1, []api.Test{try(2, 0, 0, 0)}, []api.Test{try(2, 0, 0, 1)}, []int{1}}, {2, 0, []api.Test{try(2, 1, 0, 0), try(2, 0, 0, 0)}, []api.Test{try(2, 1, 0, 1)}, []int{0}},
		{2, 0, nil, nil, []int{0, 1}}, {4, 63, nil, nil, identity(64)}, {4, 63, []api.Test{}, nil, identity(64)},
		// All four answers are known when three are.
		{4, 10, straight[:1], []api.Test{try(4, 0, 0, 0)}, []int{0, 2, 5, 7, 8, 10, 13, 15, 21, 23, 29, 31, 32, 34, 40, 42}},
		{4, 0, straight, []api.Test{try(4, 0, 0, 0), try(4, 0, 2, 2), try(4, 0, 1, 1)}, []int{0, 5, 10, 15}},
		// A try is not made again.
		{4, 5, slices.Repeat(straight[:1], 40), []api.Test{try(4, 0, 0, 0)}, []int{0, 2, 5, 7, 8, 10, 13, 15, 21, 23, 29, 31, 32, 34, 40, 42}},
	} {
		tests, left, e := probe.Find(c.n, c.state, c.tries)
		expectList(t, call("Find", c.n, c.state, c.tries), left, e, c.left, api.OK)
		expectTests(t, call("Find", c.n, c.state, c.tries), tests, c.tests)
	}
}

// P9.6, P9.8 and P9.9: what is left are the state and all its Twins, and all states that agree with the tests.
func TestFindByTries(t *testing.T) {
	r := random(9)
	lengths := map[int]int{}
	for range 600 {
		n := ports[r.Intn(2)]
		state := r.Intn(states(n))
		tries := anyTests(r, n, r.Intn(41))
		wantTests, want := found(n, state, tries)
		tests, left, e := probe.Find(n, state, tries)
		expectList(t, call("Find", n, state, tries), left, e, want, api.OK)
		expectTests(t, call("Find", n, state, tries), tests, wantTests)
		lengths[len(tests)]++

		twins := slices.DeleteFunc(identity(states(n)), func(other int) bool { return !areTwins(n, state, other, tries) })
		expectList(t, call("Twins of a state", n, state, tries), left, e, twins, api.OK)
		agreed, e := probe.Left(n, tests)
		expectList(t, call("Left", n, tests), agreed, e, left, api.OK)
		pairs, e := probe.Twins(n, left, tries)
		expect(t, call("len of Twins", n, left, tries), len(pairs), e, len(left)*(len(left)-1)/2, api.OK)
		for _, test := range tests {
			is, e := probe.Agrees(n, state, test)
			expect(t, call("Agrees", n, state, test), is, e, true, api.OK)
		}
	}
	if len(lengths) < 5 {
		t.Errorf("tests made: %v", lengths)
	}
}

// expectErrors checks the error of every function that takes n.
func expectErrors(t *testing.T, n, state int, l []int, tests []api.Test, want api.Errno) {
	t.Helper()
	left, e := probe.Left(n, tests)
	expectList(t, call("Left", n, tests), left, e, nil, want)
	index, most, e := probe.Best(n, l, tests)
	expect(t, call("Best", n, l, tests), [2]int{index, most}, e, [2]int{}, want)
	pairs, e := probe.Twins(n, l, tests)
	expectList(t, call("Twins", n, l, tests), pairs, e, nil, want)
	made, left, e := probe.Find(n, state, tests)
	expectList(t, call("Find", n, state, tests), left, e, nil, want)
	expectTests(t, call("Find", n, state, tests), made, nil)
	if len(tests) == 1 {
		is, e := probe.Agrees(n, state, tests[0])
		expect(t, call("Agrees", n, state, tests[0]), is, e, false, want)
	}
}

// P9.1: n comes first, whatever else is wrong.
func TestPortErrors(t *testing.T) {
	for _, n := range notPorts {
		for _, k := range []int{0, 1, 6, 20, 56} {
			turned := make([]bool, k)
			for _, in := range []int{0, -1, n} {
				expectErrors(t, n, 0, nil, []api.Test{{Turned: turned, In: in}}, api.ErrArg)
				expectErrors(t, n, -1, []int{1, 0}, []api.Test{{Turned: turned, In: in}}, api.ErrArg)
				out, e := probe.Answer(n, 0, turned, in)
				expect(t, call("Answer", n, k, in), out, e, 0, api.ErrArg)
				sizes, e := probe.Parts(n, nil, turned, in)
				expectList(t, call("Parts", n, k, in), sizes, e, nil, api.ErrArg)
			}
		}
		expectErrors(t, n, 0, nil, nil, api.ErrArg)
		expectErrors(t, n, 0, nil, make([]api.Test, 41), api.ErrArg)
	}
}

// P9.1, P9.4 and P9.6: a state comes in front of tests.
func TestStateErrors(t *testing.T) {
	for _, n := range ports {
		for _, state := range notState(n) {
			for _, tests := range append(notTests(n), nil, []api.Test{try(n, 0, 0, 0)}) {
				made, left, e := probe.Find(n, state, tests)
				expectList(t, call("Find", n, state, tests), left, e, nil, api.ErrArg)
				expectTests(t, call("Find", n, state, tests), made, nil)
				for _, test := range tests[:min(len(tests), 3)] {
					is, e := probe.Agrees(n, state, test)
					expect(t, call("Agrees", n, state, test), is, e, false, api.ErrArg)
				}
			}
			out, e := probe.Answer(n, state, settings(n, 0), 0)
			expect(t, call("Answer", n, state), out, e, 0, api.ErrArg)
		}
	}
}

// P9.4 and P9.5: settings and ports that are arguments of their own.
func TestSettingsErrors(t *testing.T) {
	for _, n := range ports {
		for _, in := range notPort(n) {
			out, e := probe.Answer(n, 1, settings(n, 1), in)
			expect(t, call("Answer", n, in), out, e, 0, api.ErrArg)
			sizes, e := probe.Parts(n, []int{1}, settings(n, 1), in)
			expectList(t, call("Parts", n, in), sizes, e, nil, api.ErrArg)
		}
		for _, k := range notSwitches(n) {
			out, e := probe.Answer(n, 1, make([]bool, k), 0)
			expect(t, call("Answer", n, k), out, e, 0, api.ErrArg)
			sizes, e := probe.Parts(n, []int{1}, make([]bool, k), 0)
			expectList(t, call("Parts", n, k), sizes, e, nil, api.ErrArg)
		}
	}
}

// P9.1 and P9.5: a list of states comes in front of tests, and of their absence.
func TestListErrors(t *testing.T) {
	for _, n := range ports {
		for _, l := range notStates(n) {
			for _, tests := range append(notTests(n)[:9:9], nil, []api.Test{try(n, 0, 0, 0)}) {
				index, most, e := probe.Best(n, l, tests)
				expect(t, call("Best", n, l, tests), [2]int{index, most}, e, [2]int{}, api.ErrArg)
				pairs, e := probe.Twins(n, l, tests)
				expectList(t, call("Twins", n, l, tests), pairs, e, nil, api.ErrArg)
			}
			sizes, e := probe.Parts(n, l, settings(n, 0), 0)
			expectList(t, call("Parts", n, l), sizes, e, nil, api.ErrArg)
		}
	}
}

// P9.1: tests that do not fit the network, and too many of them.
func TestTestErrors(t *testing.T) {
	for _, n := range ports {
		for _, tests := range notTests(n) {
			expectErrors(t, n, states(n)-1, []int{0, 1}, tests, api.ErrTests)
			expectErrors(t, n, 0, nil, tests, api.ErrTests)
		}
		full := slices.Repeat([]api.Test{try(n, 0, 0, 0)}, 40)
		left, e := probe.Left(n, full)
		expectList(t, call("Left", n, full), left, e, agreeing(n, identity(states(n)), full[0]), api.OK)
		_, _, e = probe.Best(n, nil, full)
		expect(t, call("Best", n, full), 0, e, 0, api.OK)
		_, e = probe.Twins(n, nil, full)
		expect(t, call("Twins", n, full), 0, e, 0, api.OK)
		_, _, e = probe.Find(n, 0, full)
		expect(t, call("Find", n, full), 0, e, 0, api.OK)
	}
}

// R4: lists are neither changed nor kept, and results are new memory.
func TestListsAreTheCallers(t *testing.T) {
	r := random(10)
	for range 100 {
		n := ports[r.Intn(2)]
		state := r.Intn(states(n))
		l, tries := anyStates(r, n), anyTests(r, n, 1+r.Intn(40))
		states, before := slices.Clone(l), copied(tries)
		tests, left, _ := probe.Find(n, state, tries)
		want, wantLeft := copied(tests), slices.Clone(left)
		for i := range tests {
			for s := range tests[i].Turned {
				tests[i].Turned[s] = !tests[i].Turned[s]
			}
			// A list that is appended to may not reach into another one's memory.
			_ = append(tests[i].Turned, true, true)
		}
		for i := range left {
			left[i] = math.MaxInt
		}
		_, _, _ = probe.Best(n, l, tries)
		_, _ = probe.Twins(n, l, tries)
		_, _ = probe.Left(n, tries)
		_, _ = probe.Parts(n, l, tries[0].Turned, tries[0].In)
		_, _ = probe.Answer(n, state, tries[0].Turned, tries[0].In)
		expectTests(t, call("tries behind all calls", n), tries, before)
		expectList(t, call("states behind all calls", n), l, api.OK, states, api.OK)
		again, left, e := probe.Find(n, state, tries)
		expectList(t, call("Find", n, state, tries), left, e, wantLeft, api.OK)
		expectTests(t, call("Find", n, state, tries), again, want)
	}
}

// The goroutines of a call do not meet those of another one.
func TestCallsBesideEachOther(t *testing.T) {
	r := random(11)
	tries := anyTests(r, 4, 20)
	var joined sync.WaitGroup
	for state := range states(4) {
		joined.Go(func() {
			wantTests, want := found(4, state, tries)
			tests, left, e := probe.Find(4, state, tries)
			expectList(t, call("Find", 4, state, tries), left, e, want, api.OK)
			expectTests(t, call("Find", 4, state, tries), tests, wantTests)
		})
	}
	joined.Wait()
}
