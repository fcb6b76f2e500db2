// Package journal: records on a disk that may fail, one behind the other.
package journal

import (
	"slices"

	"datebook/disk"
)

// The names of the files: the journal, and one that is to take its place.
const (
	file = "journal"
	next = "journal.new"
)

// Journal is the journal of a disk. What it has told, or has added without an error, no crash takes away.
type Journal struct {
	disk   *disk.Disk
	failed bool // what the disk holds is not known then, till it is opened anew
}

// Open opens the journal of a disk, and tells its records. It needs no room.
func Open(d *disk.Disk) (*Journal, []string, error) {
	if !tidy(d) {
		return nil, nil, &Error{File: file, Cause: ErrFailed}
	}
	n, _ := d.Size(file) // where it fails, Read does
	text, ok := d.Read(file, 0, n)
	if !ok {
		return nil, nil, &Error{File: file, Cause: ErrFailed}
	}
	return &Journal{disk: d}, unframe(text), nil
}

// tidy brings a disk into the state in which all calls but one that fails leave it: a journal that no crash can change, and nothing else.
func tidy(d *disk.Disk) bool {
	names := d.List()
	if slices.Contains(names, next) && !d.Remove(next) {
		return false
	}
	if !slices.Contains(names, file) && !d.Create(file) {
		return false
	}
	return d.Sync(file) && d.SyncDir()
}

// Add adds a record, if room remains to replace all by some records then.
func (j *Journal) Add(record string, replace []string) error {
	data := frame(record)
	if err := j.check(len(data) + len(frame(replace...))); err != nil {
		return &Error{File: file, Cause: err}
	}
	if !j.disk.Append(file, data) || !j.disk.Sync(file) {
		return j.fail(file)
	}
	return nil
}

// Replace lets the journal have these records alone. They are made sure of ahead of the name, so that a crash finds either all of the old ones or all of these.
func (j *Journal) Replace(records []string) error {
	data := frame(records...)
	if err := j.check(len(data)); err != nil {
		return &Error{File: next, Cause: err}
	}
	d := j.disk
	if !d.Create(next) || !d.Append(next, data) || !d.Sync(next) || !d.Rename(next, file) || !d.SyncDir() {
		return j.fail(next)
	}
	return nil
}

// check tells why nothing can be written that needs so much room.
func (j *Journal) check(room int) error {
	switch {
	case room > j.disk.Left():
		return ErrFull
	case j.failed:
		return ErrFailed
	}
	return nil
}

// fail lets nothing be written from now on.
func (j *Journal) fail(name string) error {
	j.failed = true
	return &Error{File: name, Cause: ErrFailed}
}
