package datebook

import (
	"cmp"
	"slices"

	"datebook/api"
	"datebook/calendar"
	"datebook/event"
)

// isAsked tells whether hits can be asked for so, of no events, too.
func isAsked(from int, to int, most int) bool {
	return calendar.IsTime(from) && calendar.IsTime(to) && 0 <= most && most <= api.MaxHits
}

// hits tells when all events are. Each may have as many hits as the others have left over: so it does not matter in which order they are gone through.
func (b *Book) hits(from int, to int, most int) ([]api.Hit, api.Errno) {
	var out []api.Hit
	for uid, e := range b.events {
		times, errno := event.Expand(e, from, to, most-len(out))
		if errno != api.OK {
			return nil, errno
		}
		for _, at := range times {
			out = append(out, api.Hit{At: at, Uid: uid})
		}
	}
	slices.SortFunc(out, compareHits)
	return out, api.OK
}

// compareHits is the order of the times, then of the Uids.
func compareHits(a api.Hit, b api.Hit) int {
	return cmp.Or(cmp.Compare(a.At, b.At), cmp.Compare(a.Uid, b.Uid))
}
