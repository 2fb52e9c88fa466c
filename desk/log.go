package desk

import (
	"slices"

	"photonmesh/api"
)

const (
	head      = 4          // bytes of a page in front of its entry
	maxNumber = 1000000000 // number of an entry
)

// Log is a log on a flash. Only OpenLog makes one that has a flash: one without a flash behaves like nil.
type Log struct {
	flash    *Flash
	restarts int // of the flash, when the log was opened
	down     bool
	entries  [][]byte
}

// OpenLog returns the log on a flash.
func OpenLog(f *Flash) (*Log, api.Errno) {
	if f.down() {
		return nil, api.ErrDown
	}
	held := map[int][]byte{}
	for at := range f.Pages() {
		b, e := f.Read(at)
		number, entry, ok := unpack(b)
		// Of pages with the same number the lower one counts, which came first.
		if _, there := held[number]; e == api.OK && ok && !there {
			held[number] = entry
		}
	}
	l := &Log{flash: f, restarts: f.restarts}
	for {
		entry, there := held[l.next()]
		if !there {
			return l, api.OK
		}
		l.entries = append(l.entries, entry)
	}
}

// Entries returns the entries of the log.
func (l *Log) Entries() [][]byte {
	if l == nil {
		return nil
	}
	var entries [][]byte
	for _, entry := range l.entries {
		entries = append(entries, slices.Clone(entry))
	}
	return entries
}

// Put writes the next entry.
func (l *Log) Put(entry []byte) api.Errno {
	if e := l.check(); e != api.OK {
		return e
	}
	if len(entry) > api.MaxEntry {
		return api.ErrArg
	}
	return l.noted(l.put(entry))
}

// Clean erases all broken pages, and returns how many.
func (l *Log) Clean() (int, api.Errno) {
	if e := l.check(); e != api.OK {
		return 0, e
	}
	count, e := l.clean()
	return count, l.noted(e)
}

// Dead reports whether the log is dead: it has seen a loss of power, or the flash was restarted.
func (l *Log) Dead() bool {
	return l == nil || l.flash == nil || l.down || l.restarts != l.flash.restarts
}

// put writes the next entry into the lowest free page.
func (l *Log) put(entry []byte) api.Errno {
	if l.flash.down() {
		return api.ErrDown
	}
	at := slices.Index(l.flash.Pages(), api.PageFree)
	if at < 0 {
		return api.ErrFull
	}
	if e := l.flash.Write(at, pack(l.next(), entry)); e != api.OK {
		return e
	}
	l.entries = append(l.entries, slices.Clone(entry))
	return api.OK
}

// clean erases all broken pages, from the lowest one on.
func (l *Log) clean() (int, api.Errno) {
	if l.flash.down() {
		return 0, api.ErrDown
	}
	count := 0
	for at, state := range l.flash.Pages() {
		if state != api.PageBroken {
			continue
		}
		if e := l.flash.Erase(at); e != api.OK {
			return 0, e
		}
		count++
	}
	return count, api.OK
}

// check returns ErrDown if there is no log, ErrDead if it is dead, or OK.
func (l *Log) check() api.Errno {
	switch {
	case l == nil || l.flash == nil:
		return api.ErrDown
	case l.Dead():
		return api.ErrDead
	}
	return api.OK
}

// noted returns the error of a call; the log keeps in mind that it had no power.
func (l *Log) noted(e api.Errno) api.Errno {
	l.down = e == api.ErrDown
	return e
}

// next returns the number of the next entry.
func (l *Log) next() int {
	return len(l.entries) + 1
}

// pack returns the bytes of a page that holds an entry with a number.
func pack(number int, entry []byte) []byte {
	b := []byte{byte(number >> 24), byte(number >> 16), byte(number >> 8), byte(number)}
	return append(b, entry...)
}

// unpack returns the number and the entry that the bytes of a page hold, or false if they hold none.
func unpack(b []byte) (int, []byte, bool) {
	if len(b) < head || len(b) > head+api.MaxEntry {
		return 0, nil, false
	}
	number := 0
	for _, digit := range b[:head] {
		number = number<<8 | int(digit)
	}
	if number < 1 || number > maxNumber {
		return 0, nil, false
	}
	return number, b[head:], true
}
