package datebook

import (
	"fmt"
	"math/rand"
	"regexp"
	"strconv"
	"strings"

	"datebook/api"
)

// The commands, as the document writes them.
var (
	slowPut     = regexp.MustCompile(`^PUT (0|[1-9][0-9]{0,3})$`)
	slowGet     = regexp.MustCompile(`^GET ([^ ]+)$`)
	slowDelete  = regexp.MustCompile(`^DELETE ([^ ]+)$`)
	slowRange   = regexp.MustCompile(`^RANGE (0|-?[1-9][0-9]{0,18}) (0|-?[1-9][0-9]{0,18}) (0|-?[1-9][0-9]{0,18})$`)
	slowCompact = regexp.MustCompile(`^COMPACT$`)
)

// slowTalk works out, by calls of a store, what a session must answer to bytes that have all come: the answers, one by one.
func slowTalk(b *Book, all string) []string {
	var out []string
	for {
		line, rest, ended := strings.Cut(all, "\n")
		if !ended {
			return out
		}
		if len(line) > 100 {
			line = ""
		}
		if m := slowPut.FindStringSubmatch(line); m != nil {
			n, _ := strconv.Atoi(m[1])
			if n <= 4000 {
				if len(rest) < n {
					return out
				}
				line, rest = "PUT "+rest[:n], rest[n:]
				out = append(out, slowPutText(b, line[4:]))
				all = rest
				continue
			}
		}
		out = append(out, slowLine(b, line))
		all = rest
	}
}

// slowPutText puts a text.
func slowPutText(b *Book, s string) string {
	errno, at := b.Put(s)
	if errno == api.ErrLines || errno == api.ErrEvent {
		return fmt.Sprintf("ERR %d %d\n", errno, at)
	}
	return slowErr(errno, "OK\n")
}

// slowLine does a command that has no text.
func slowLine(b *Book, line string) string {
	if m := slowGet.FindStringSubmatch(line); m != nil {
		s, errno := b.Get(m[1])
		return slowErr(errno, fmt.Sprintf("OK %d\n%s", len(s), s))
	}
	if m := slowDelete.FindStringSubmatch(line); m != nil {
		return slowErr(b.Delete(m[1]), "OK\n")
	}
	if m := slowRange.FindStringSubmatch(line); m != nil {
		var n [3]int
		for i := range n {
			var err error
			if n[i], err = strconv.Atoi(m[i+1]); err != nil {
				return "ERR 1\n"
			}
		}
		hits, errno := b.Range(n[0], n[1], n[2])
		out := fmt.Sprintf("OK %d\n", len(hits))
		for _, h := range hits {
			out += fmt.Sprintf("%d %s\n", h.At, h.Uid)
		}
		return slowErr(errno, out)
	}
	if slowCompact.MatchString(line) {
		return slowErr(b.Compact(), "OK\n")
	}
	return "ERR 1\n"
}

func slowErr(errno api.Errno, ok string) string {
	if errno != api.OK {
		return fmt.Sprintf("ERR %d\n", errno)
	}
	return ok
}

func one(r *rand.Rand, l ...string) string { return l[r.Intn(len(l))] }

// putOf is the command that puts a text.
func putOf(s string) string { return "PUT " + strconv.Itoa(len(s)) + "\n" + s }

// someCommand is a command as chance has it: most are right.
func someCommand(r *rand.Rand) string {
	uid := one(r, "a", "b", "c", "d.1@x", "-", "none")
	switch r.Intn(9) {
	case 0, 1:
		return putOf(on(uid, 1+r.Intn(31)))
	case 2:
		return putOf(one(r, "", "\n", "x", "x\ny", "a\r\nb\n", " a\r\n", text(), text("UID:a"), text("UID:a", "DTSTART:20240131T000000", "RRULE:FREQ=DAILY;BYMONTH=2"), "GET a\n", "\xff\x00\r\n"))
	case 3:
		return "GET " + uid + "\n"
	case 4:
		return "DELETE " + uid + "\n"
	case 5:
		return "RANGE " + one(r, "0", "1704067200", "-2208988800", "-2208988801", "-1") + " " + one(r, "1706745600", "7258118399", "7258118400", "9223372036854775808") + " " + one(r, "0", "1", "3", "1000", "1001", "-9223372036854775808") + "\n"
	case 6:
		return "COMPACT\n"
	case 7:
		return putOf(text("UID:"+uid, "SUMMARY:"+strings.Repeat("x", r.Intn(60)), "DTSTART:20240101T120000", "DURATION:PT1H", "RRULE:FREQ=WEEKLY;COUNT=3"))
	}
	return one(r, "\n", " \n", "GET\n", "GET \n", "GET a b\n", "get a\n", "GET a\r\n", "PUT\n", "PUT 4001\n", "PUT 05\n", "PUT -1\n", "DELETE\n", "COMPACT \n", "RANGE 1 2\n", "RANGE 01 2 3\n", "RANGE 1 2 3 \n",
		"GET "+strings.Repeat("g", 96)+"\n", "GET "+strings.Repeat("g", 97)+"\n", strings.Repeat("COMPACT ", 40)+"\n", strings.Repeat("z", 300)+"\n", "\x00\xff\n")
}

// someScript is some commands; in some of the scripts bytes are changed, or missing.
func someScript(r *rand.Rand) string {
	var out strings.Builder
	for range 1 + r.Intn(12) {
		out.WriteString(someCommand(r))
	}
	s := []byte(out.String())
	if r.Intn(3) == 0 {
		s[r.Intn(len(s))] = one(r, "\n", " ", "0", "9", "-", "G", "\r", "\xff")[0]
	}
	if r.Intn(4) == 0 {
		s = s[:r.Intn(len(s))]
	}
	return string(s)
}
