package store

import (
	"strconv"
	"strings"

	"watchfire/api"
	"watchfire/disk"
	"watchfire/journal"
	"watchfire/lab"
)

// prefix begins the names of all generations' files.
const prefix = "s."

// fresh is the name of a file that is to become the next generation, until it is whole.
const fresh = "new"

// A file may grow by so many quotas and so many bytes until it is written anew.
const (
	quotas = 4
	slack  = 1024
)

// fileName returns the name of a generation's file.
func fileName(gen uint64) string {
	return prefix + strconv.FormatUint(gen, 10)
}

// generation returns the generation whose file has this name, and true, or false if it is another file.
func generation(name string) (uint64, bool) {
	gen, err := strconv.ParseUint(strings.TrimPrefix(name, prefix), 10, 64)
	// A number with a leading zero is none that is printed, and one without the prefix is no name.
	if err != nil || fileName(gen) != name {
		return 0, false
	}
	return gen, true
}

// newest returns the greatest generation that has a file, 0 if none has.
func newest(d *disk.Disk) uint64 {
	var last uint64
	for _, name := range d.Names() {
		if gen, ok := generation(name); ok {
			last = max(last, gen)
		}
	}
	return last
}

// tidy removes what a crash within Sync leaves: all files of generations but the one of this name, and the one that was to become the next.
func tidy(d *disk.Disk, keep string) {
	for _, name := range d.Names() {
		if _, ok := generation(name); ok && name != keep || name == fresh {
			d.Remove(name)
		}
	}
}

// Sync makes everything that was done stay. A file that has become too long is written anew.
func (s *Store) Sync() api.Errno {
	if s == nil {
		return api.ErrNil
	}
	if s.file.Size() > s.Room() {
		if e := s.renew(); e != api.OK {
			return e
		}
	}
	return s.file.Sync()
}

// renew writes a snapshot as the next generation, which takes the place of this one. Up to the renaming, a crash leaves this one as it was.
func (s *Store) renew() api.Errno {
	gen := s.gen + 1
	name := fileName(gen)
	// What can fail comes ahead of any change.
	if !lab.Value(name) {
		return api.ErrName
	}
	b, e := journal.Lay(s.table, s.snapshot())
	if e != api.OK {
		return e
	}
	s.disk.Remove(fresh)
	if e := s.disk.Append(fresh, b); e != api.OK {
		return e
	}
	s.disk.Sync(fresh)
	s.disk.Rename(fresh, name)
	s.disk.Remove(s.file.Name())
	// It cannot fail: there are a disk and a table.
	s.file, _, _ = journal.Open(s.disk, s.table, name)
	s.gen, s.first = gen, len(b)
	return api.OK
}

// Sizes returns the length of the file, and its generation.
func (s *Store) Sizes() (bytes int, gen uint64) {
	if s == nil {
		return 0, 0
	}
	return s.file.Size(), s.gen
}

// Room returns how long the file may become until Sync writes it anew.
func (s *Store) Room() int {
	if s == nil {
		return 0
	}
	return s.first + quotas*s.queue.Quota() + slack
}
