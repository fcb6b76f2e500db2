package datebook

import (
	"maps"

	"datebook/api"
)

// find is the event of a Uid.
func (b *Book) find(uid string) (api.Event, error) {
	e, there := b.events[uid]
	if !there {
		return api.Event{}, errNone
	}
	return e, nil
}

// keep keeps an event. So much room remains that the store can be compacted: else a disk that is full would stay so.
func (b *Book) keep(e api.Event) error {
	events := maps.Clone(b.events)
	events[e.Uid] = e
	if len(events) > api.MaxEvents {
		return errMany
	}
	if err := b.journal.Add(putRecord(e), putRecords(events)); err != nil {
		return err
	}
	b.events = events
	return nil
}

// drop keeps an event no more. It may take of the room that remains for compacting, as that needs less then.
func (b *Book) drop(uid string) error {
	if _, err := b.find(uid); err != nil {
		return err
	}
	if err := b.journal.Add(deleteRecord(uid), nil); err != nil {
		return err
	}
	delete(b.events, uid)
	return nil
}
