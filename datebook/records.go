package datebook

import (
	"maps"
	"slices"
	"strings"

	"datebook/api"
	"datebook/event"
)

// What a record begins with: it says what stands behind.
const (
	putMark    = "+" // the text of an event that is kept
	deleteMark = "-" // the Uid of one that is kept no more
)

// putRecord tells that an event is kept. It was read from a text, so it can be printed.
func putRecord(e api.Event) string {
	text, _ := event.Print(e)
	return putMark + text
}

// putRecords tell that events are kept, in the order of their Uids.
func putRecords(events map[string]api.Event) []string {
	var out []string
	for _, uid := range slices.Sorted(maps.Keys(events)) {
		out = append(out, putRecord(events[uid]))
	}
	return out
}

// deleteRecord tells that an event is kept no more.
func deleteRecord(uid string) string { return deleteMark + uid }

// replay is the events that are kept behind all that some records tell.
func replay(records []string) map[string]api.Event {
	events := map[string]api.Event{}
	for _, r := range records {
		if uid, deleted := strings.CutPrefix(r, deleteMark); deleted {
			delete(events, uid)
		} else if e, errno, _ := event.Parse(strings.TrimPrefix(r, putMark)); errno == api.OK {
			events[e.Uid] = e
		}
	}
	return events
}
