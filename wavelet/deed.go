package wavelet

import (
	"comitia/api"
	"comitia/delta"
	"comitia/op"
	"comitia/people"
	"comitia/sha"
	"comitia/sign"
)

// deed is a state that an entry is being done to: field by field it becomes what the entry makes of it.
type deed struct {
	State
	entry api.Entry
	delta api.Delta
}

// read is the delta that the entry does.
func (d *deed) read() (err api.Errno) {
	d.delta, err = delta.Parse(d.entry.S.Body)
	return err
}

// admit looks whether the entry is for this version, and of who takes part.
func (d *deed) admit() api.Errno {
	done := between(d.delta.Version, d.entry.At) // what was done since the version that the delta is meant for
	if !done.reaches(d.Version) {
		return api.ErrStale
	}
	if !people.Has(d.People, d.delta.Author) {
		return api.ErrMay
	}
	return api.OK
}

// change makes the document, or the people.
func (d *deed) change() api.Errno {
	switch d.delta.Kind {
	case api.Add:
		return d.let(people.Add)
	case api.Remove:
		return d.let(people.Remove)
	}
	return d.edit()
}

// edit makes the document by the entry's operation: the delta's own is that of an earlier version.
func (d *deed) edit() api.Errno {
	err := op.Check(d.entry.Op)
	if err != api.OK {
		return err
	}
	d.Doc, err = op.Apply(d.Doc, d.entry.Op)
	return err
}

// let makes the people, by one of the calls that do.
func (d *deed) let(call func([]api.Addr, api.Addr) ([]api.Addr, api.Errno)) (err api.Errno) {
	if len(d.entry.Op) > 0 {
		return api.ErrArg
	}
	d.People, err = call(d.People, d.delta.Who)
	return err
}

// chain makes the version and the hash, if the entry's is what the history ahead and the entry make.
func (d *deed) chain() api.Errno {
	if d.entry.Hash != sha.Sum(d.Hash[:], sign.Core(d.entry)) {
		return api.ErrHash
	}
	d.Version++
	d.Hash = d.entry.Hash
	return api.OK
}
