package desk

import (
	"slices"

	"photonmesh/api"
)

const (
	minPages = 2    // pages that a flash has at least
	maxBytes = 1000 // bytes that a page takes
)

// page is a page of a flash. Its bytes are replaced as a whole and never changed, so that copies may share them.
type page struct {
	state int
	bytes []byte
}

// Flash is a flash. Only NewFlash makes one that has pages: one without pages behaves like nil.
type Flash struct {
	count    int
	pages    [api.MaxPages]page
	power    bool
	armed    int // which call of Write or Erase from now on fails; 0 if nothing is armed
	restarts int // how many there were: logs that have seen fewer are dead
}

// NewFlash returns a flash with power whose pages are all free.
func NewFlash(pages int) (*Flash, api.Errno) {
	if pages < minPages || pages > api.MaxPages {
		return nil, api.ErrArg
	}
	return &Flash{count: pages, power: true}, api.OK
}

// Pages returns the state of each page.
func (f *Flash) Pages() []int {
	if f.down() {
		return nil
	}
	var states []int
	for _, p := range f.pages[:f.count] {
		states = append(states, p.state)
	}
	return states
}

// Write makes a free page full with bytes.
func (f *Flash) Write(page int, b []byte) api.Errno {
	e := f.check(page)
	switch {
	case e != api.OK:
		return e
	case len(b) > maxBytes:
		return api.ErrArg
	case f.pages[page].state != api.PageFree:
		return api.ErrPage
	}
	return f.change(page, api.PageFull, slices.Clone(b))
}

// Erase makes a page free.
func (f *Flash) Erase(page int) api.Errno {
	if e := f.check(page); e != api.OK {
		return e
	}
	return f.change(page, api.PageFree, nil)
}

// Read returns the bytes of a full page.
func (f *Flash) Read(page int) ([]byte, api.Errno) {
	if e := f.check(page); e != api.OK {
		return nil, e
	}
	if f.pages[page].state != api.PageFull {
		return nil, api.ErrPage
	}
	return slices.Clone(f.pages[page].bytes), api.OK
}

// Arm makes the n-th call of Write or Erase from now on fail, or none if n is less than 1.
func (f *Flash) Arm(n int) {
	if f != nil {
		f.armed = max(n, 0)
	}
}

// Restart gives power again; it ends the time of all logs that are open.
func (f *Flash) Restart() {
	// Without pages there is nothing that power could be given to.
	if f == nil || f.count == 0 {
		return
	}
	f.power = true
	f.armed = 0
	f.restarts++
}

// Copy returns a flash that is the same and independent.
func (f *Flash) Copy() *Flash {
	if f == nil || f.count == 0 {
		return nil
	}
	other := *f
	return &other
}

// down reports whether there is no flash, or no power.
func (f *Flash) down() bool {
	return f == nil || !f.power
}

// check returns ErrDown if the flash is down, ErrArg if it has no such page, or OK.
func (f *Flash) check(page int) api.Errno {
	switch {
	case f.down():
		return api.ErrDown
	case page < 0 || page >= f.count:
		return api.ErrArg
	}
	return api.OK
}

// change gives a page this state and these bytes, or breaks it if this is the call that fails.
func (f *Flash) change(at, state int, bytes []byte) api.Errno {
	fails := f.armed == 1
	f.armed = max(f.armed-1, 0)
	if fails {
		f.pages[at] = page{state: api.PageBroken}
		f.power = false
		return api.ErrDown
	}
	f.pages[at] = page{state: state, bytes: bytes}
	return api.OK
}
