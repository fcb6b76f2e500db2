package event

import (
	"math/rand"
	"regexp"
	"slices"
	"strconv"
	"strings"
	"time"

	"datebook/api"
	"datebook/recur"
)

// What follows reads lines once more, in other ways than the program: each reason is looked for by itself.

const oneDate = `(\d{8}|\d{8}T([01]\d|2[0-3])([0-5]\d){2}Z?)`

var (
	slowNames    = regexp.MustCompile(`^(UID|SUMMARY|DURATION|RRULE):|^(DTSTART|DTEND|RDATE|EXDATE)[:;]`)
	slowUid      = regexp.MustCompile(`^[A-Za-z0-9.@-]{1,30}$`)
	slowSummary  = regexp.MustCompile(`^([^\\;,]|\\[\\;,n])*$`)
	slowDates    = regexp.MustCompile(`^(;VALUE=DATE)?:(` + oneDate + `(,` + oneDate + `){0,19})$`)
	slowDuration = regexp.MustCompile(`^P(\d{1,7}W|(\d{1,7}D)?(T(\d{1,7}H)?(\d{1,7}M)?(\d{1,7}S)?)?)$`)
	slowPart     = regexp.MustCompile(`^(` + strings.Join([]string{
		`FREQ=(DAILY|WEEKLY|MONTHLY|YEARLY)`,
		`INTERVAL=[1-9]\d*`,
		`COUNT=[1-9]\d*`,
		`UNTIL=` + oneDate,
		`BYMONTH=([1-9]|1[0-2])(,([1-9]|1[0-2])){0,19}`,
		`BYMONTHDAY=-?[1-9]\d?(,-?[1-9]\d?){0,19}`,
		`BYDAY=(-?[1-9]\d?)?(MO|TU|WE|TH|FR|SA|SU)(,(-?[1-9]\d?)?(MO|TU|WE|TH|FR|SA|SU)){0,19}`,
		`BYSETPOS=-?[1-9]\d{0,2}(,-?[1-9]\d{0,2}){0,19}`,
		`WKST=(MO|TU|WE|TH|FR|SA|SU)`,
	}, "|") + `)$`)
	slowNumber = regexp.MustCompile(`\d+`)
	slowDay    = regexp.MustCompile(`(-?\d*)([A-Z]{2})`)
)

// slowDate is a date and its form: the layout by which the library reads it, or nothing.
func slowDate(s string) (int, string) {
	for _, layout := range []string{"20060102", "20060102T150405", "20060102T150405Z"} {
		if t, err := time.Parse(layout, s); err == nil && len(s) == len(layout) && t.Year() >= 1900 && t.Year() <= 2199 {
			return int(t.Unix()), layout
		}
	}
	return 0, ""
}

// slowList are the dates behind a name; nil, if they are no dates, or of another form (any will do, if it is "").
func slowList(rest string, layout string) ([]int, string) {
	m := slowDates.FindStringSubmatch(rest)
	if m == nil {
		return nil, ""
	}
	var out []int
	for _, s := range strings.Split(m[2], ",") {
		at, l := slowDate(s)
		if layout == "" {
			layout = l
		}
		if l == "" || l != layout || (l == "20060102") != (m[1] != "") {
			return nil, ""
		}
		out = append(out, at)
	}
	return out, layout
}

// slowLength is a length, -1 if there is none.
func slowLength(found map[string][]string, start int, layout string) int {
	length, whole := 0, layout == "20060102"
	if whole {
		length = api.Day
	}
	ends, durations := found["DTEND"], found["DURATION"]
	switch {
	case ends != nil && durations != nil:
		return -1
	case ends != nil:
		l, _ := slowList(ends[0], layout)
		if len(l) != 1 {
			return -1
		}
		length = l[0] - start
	case durations != nil:
		s := durations[0][1:]
		if !slowDuration.MatchString(s) || s == "P" || strings.HasSuffix(s, "T") {
			return -1
		}
		length = 0
		for _, m := range regexp.MustCompile(`(\d+)([WDHMS])`).FindAllStringSubmatch(s, -1) {
			n, _ := strconv.Atoi(m[1])
			length += n * map[string]int{"W": 7 * api.Day, "D": api.Day, "H": 3600, "M": 60, "S": 1}[m[2]]
		}
	}
	if length < 0 || length > api.MaxLength || whole && (length == 0 || length%api.Day != 0) {
		return -1
	}
	return length
}

// slowNumbers are the numbers of a list, in order, each once; nil, if one is beyond most.
func slowNumbers(s string, most int) []int {
	var out []int
	for _, p := range strings.Split(s, ",") {
		n, _ := strconv.Atoi(p)
		if n > most || n < -most {
			return nil
		}
		if !slices.Contains(out, n) {
			out = append(out, n)
		}
	}
	slices.Sort(out)
	return out
}

// slowWeekdays are the weekdays of a list, in order, each once; nil, if a number is beyond 53.
func slowWeekdays(s string) []api.Weekday {
	var out []api.Weekday
	for day, name := range strings.Fields("MO TU WE TH FR SA SU") {
		var numbers []int
		for _, m := range slowDay.FindAllStringSubmatch(s, -1) {
			n, _ := strconv.Atoi("0" + strings.TrimPrefix(m[1], "-"))
			if strings.HasPrefix(m[1], "-") {
				n = -n
			}
			if n > 53 || n < -53 {
				return nil
			}
			if m[2] == name {
				numbers = append(numbers, n)
			}
		}
		slices.Sort(numbers)
		for _, n := range slices.Compact(numbers) {
			out = append(out, api.Weekday{N: n, Day: day})
		}
	}
	return out
}

// slowRule is a rule; whether it is one.
func slowRule(s string, layout string) (api.Rule, bool) {
	r := api.Rule{Every: 1}
	seen := map[string]bool{}
	for _, p := range strings.Split(s, ";") {
		name, value, _ := strings.Cut(p, "=")
		if seen[name] || !slowPart.MatchString(p) {
			return r, false
		}
		seen[name] = true
		ok := true
		switch name {
		case "FREQ":
			r.Freq = 1 + slices.Index(strings.Fields("DAILY WEEKLY MONTHLY YEARLY"), value)
		case "INTERVAL":
			r.Every, _ = strconv.Atoi(value)
			ok = len(value) < 9 && r.Every <= 400
		case "COUNT":
			r.Count, _ = strconv.Atoi(value)
			ok = len(value) < 9 && r.Count <= 999
		case "UNTIL":
			var l string
			r.Until, l = slowDate(value)
			r.Ends, ok = true, l != "" && (l == layout || layout == "")
		case "BYMONTH":
			r.Months = slowNumbers(value, 12)
		case "BYMONTHDAY":
			r.MonthDays = slowNumbers(value, 31)
			ok = r.MonthDays != nil
		case "BYDAY":
			r.Weekdays = slowWeekdays(value)
			ok = r.Weekdays != nil
		case "BYSETPOS":
			r.Places = slowNumbers(value, 366)
			ok = r.Places != nil
		case "WKST":
			r.First = slices.Index(strings.Fields("MO TU WE TH FR SA SU"), value)
		}
		if !ok {
			return r, false
		}
	}
	return r, r.Freq > 0
}

// slowTogether tells whether the parts of a rule go together.
func slowTogether(r api.Rule) bool {
	numbered := slices.ContainsFunc(r.Weekdays, func(w api.Weekday) bool { return w.N != 0 })
	if r.Count > 0 && r.Ends || r.MonthDays != nil && r.Freq == api.Weekly {
		return false
	}
	if numbered && (r.Freq == api.Daily || r.Freq == api.Weekly || r.MonthDays != nil) {
		return false
	}
	return r.Places == nil || r.Months != nil || r.MonthDays != nil || r.Weekdays != nil
}

// slowEvent reads an event out of lines: the event, and 0; or the least reason why there is none.
func slowEvent(l []string) (api.Event, int) {
	var whys []int
	wrong := func(why int, is bool) {
		if is {
			whys = append(whys, why)
		}
	}
	wrong(api.WhyFrame, len(l) < 2 || l[0] != "BEGIN:VEVENT" || l[len(l)-1] != "END:VEVENT")
	found := map[string][]string{}
	for i, line := range l {
		if i == 0 || i == len(l)-1 {
			continue
		}
		wrong(api.WhyName, !slowNames.MatchString(line))
		if at := strings.IndexAny(line, ":;"); at >= 0 {
			found[line[:at]] = append(found[line[:at]], line[at:])
			wrong(api.WhyTwice, len(found[line[:at]]) > 1)
		}
	}
	first := func(name string) string { return append(found[name], ":")[0][1:] }
	e := api.Event{Uid: first("UID")}
	wrong(api.WhyUid, !slowUid.MatchString(e.Uid))
	e.Summary = strings.NewReplacer(`\\`, `\`, `\;`, `;`, `\,`, `,`, `\n`, "\n").Replace(first("SUMMARY"))
	wrong(api.WhySummary, !slowSummary.MatchString(first("SUMMARY")) || len(e.Summary) > 200)
	start, layout := slowList(append(found["DTSTART"], "")[0], "")
	wrong(api.WhyStart, len(start) != 1)
	if len(start) == 1 {
		e.Start = start[0]
	}
	e.Whole, e.Utc = layout == "20060102", strings.HasSuffix(layout, "Z")
	e.Length = slowLength(found, e.Start, layout)
	wrong(api.WhyLength, e.Length < 0)
	if found["RRULE"] != nil {
		rule, is := slowRule(first("RRULE"), layout)
		e.Rule = rule
		wrong(api.WhyRule, !is)
		wrong(api.WhyParts, is && !slowTogether(rule))
	}
	for name, list := range map[string]*[]int{"RDATE": &e.More, "EXDATE": &e.Fewer} {
		if found[name] != nil {
			*list, _ = slowList(found[name][0], layout)
			wrong(api.WhyDates, *list == nil)
			slices.Sort(*list)
			*list = slices.Compact(*list)
		}
	}
	if len(whys) > 0 {
		return api.Event{}, slices.Min(whys)
	}
	if e.Rule.Freq > 0 {
		for at := range recur.Dates(e.Start, e.Rule, e.Start) {
			if at == e.Start {
				return e, 0
			}
			break
		}
		return api.Event{}, api.WhyFirst
	}
	return e, 0
}

// pick is one of some texts.
func pick(r *rand.Rand, l ...string) string { return l[r.Intn(len(l))] }

// someDate is a date of a form, rarely of another, or none.
func someDate(r *rand.Rand, form int) string {
	if r.Intn(60) == 0 {
		return pick(r, "", "x", "20230229", "20240131T240000", "20240131T006000", "20240131T000060Z", "18991231", "22000101T000000", "2024013", "20240131T0915", "20240131t091500", "20240131T091500ZZ", "+0240131", "20241301", "20240100", "20240131T-10000")
	}
	if r.Intn(80) == 0 {
		form = r.Intn(3)
	}
	day := pick(r, "20240131", "20240201", "20240229", "20231231", "19000101", "21991231", "20240131", "20240131")
	clock := pick(r, "T091500", "T000000", "T235959", "T091500", "T091500")
	return day + []string{"", clock, clock + "Z"}[form]
}

// someDates are dates behind a name, with what stands between them.
func someDates(r *rand.Rand, form int, count int) string {
	out := []string{":", ":", ";VALUE=DATE:"}[(form+2)%3]
	if r.Intn(100) == 0 {
		out = pick(r, ":", ";", ";VALUE=DATE:", ";VALUE=DATE", ";VALUE=DATE-TIME:", "::")
	}
	for i := range count {
		if i > 0 {
			out += ","
		}
		out += someDate(r, form)
	}
	return out
}

// someParts are the parts of a rule.
func someParts(r *rand.Rand, form int) string {
	list := func(one func() string) string {
		out := one()
		count := r.Intn(3)
		if r.Intn(60) == 0 {
			count = 17 + r.Intn(5)
		}
		for range count {
			out += "," + one()
		}
		return out
	}
	number := func(l ...string) string {
		if r.Intn(150) == 0 {
			return pick(r, "", "0", "01", "+1", "-0", "-01", "1 ", "x", "99999999999999999999", "-", "13", "-13", "32", "-32", "54", "-54", "367", "-367", "401", "1000")
		}
		return pick(r, l...)
	}
	parts := []string{"FREQ=" + pick(r, "DAILY", "WEEKLY", "MONTHLY", "YEARLY", "DAILY", "WEEKLY", "MONTHLY", "YEARLY", "MONTHLY", "YEARLY", "HOURLY")}
	more := []func() string{
		func() string { return "INTERVAL=" + number("1", "2", "399", "400", "1") },
		func() string { return "COUNT=" + number("1", "2", "998", "999") },
		func() string { return "UNTIL=" + someDate(r, form) },
		func() string { return "BYMONTH=" + list(func() string { return number("1", "2", "12", "1") }) },
		func() string {
			return "BYMONTHDAY=" + list(func() string { return number("31", "-1", "-31", "1", "31") })
		},
		func() string {
			return "BYDAY=" + list(func() string {
				return pick(r, "", "", "", number("1", "-1", "5", "53", "-53")) + pick(r, "MO", "TU", "WE", "WE", "WE", "TH", "FR", "SA", "SU")
			})
		},
		func() string {
			return "BYSETPOS=" + list(func() string { return number("1", "-1", "366", "-366", "2") })
		},
		func() string { return "WKST=" + pick(r, "MO", "TU", "WE", "TH", "FR", "SA", "SU") },
		func() string {
			return pick(r, "", "WKST=", "WKST=MOO", "BYDAY=", "BYDAY=W", "BYDAY=3", "X=1", "freq=DAILY", "COUNT", "BYHOUR=1")
		},
	}
	for i, m := range more {
		if r.Intn(5) == 0 && (i < len(more)-1 || r.Intn(12) == 0) {
			parts = append(parts, m())
		}
	}
	if r.Intn(60) == 0 {
		parts = append(parts, parts[r.Intn(len(parts))])
	}
	r.Shuffle(len(parts), func(i, k int) { parts[i], parts[k] = parts[k], parts[i] })
	if r.Intn(60) == 0 {
		parts = parts[1:]
	}
	return strings.Join(parts, ";")
}

// someLines are lines that often tell an event, and often do not, for few reasons at a time.
func someLines(r *rand.Rand) []string {
	form := r.Intn(3)
	l := []string{"UID:" + pick(r, "a", "A-9.z@q", strings.Repeat("u", 30)), "DTSTART" + someDates(r, form, 1)}
	more := []func() string{
		func() string {
			return "SUMMARY:" + pick(r, "", "x", `x\,y\;z\\\n`, strings.Repeat("s", 200), strings.Repeat("s", 198)+`\n\\`, "\u00e9\t ")
		},
		func() string { return "RRULE:" + someParts(r, form) },
		func() string { return "RRULE:" + someParts(r, form) },
		func() string { return "RDATE" + someDates(r, form, 1+r.Intn(3)*r.Intn(3)) },
		func() string { return "EXDATE" + someDates(r, form, 1+r.Intn(20)) },
		func() string { return "DTEND" + someDates(r, form, 1) },
		func() string {
			return "DURATION:" + pick(r, "P1D", "P1W", "P2D", "P31D", "P0D", "PT24H", "PT0048H", "P1DT24H", "P1DT1440M", "P1DT86400S", "PT1H", "PT1M1S", "P1DT1H1S", "PT2678400S")
		},
	}
	for i, m := range more {
		if r.Intn(5) < []int{2, 2, 2, 2, 2, 1, 1}[i] && (i != 2 || len(l) < 4) {
			l = append(l, m())
		}
	}
	if r.Intn(12) == 0 {
		l = append(l, pick(r, "", "X:y", "uid:b", "UID", "UID:b", "UID;x:b", "SUMMARY", "SUMMARY;x:y", "SUMMARY:y", "BEGIN:VEVENT", "END:VEVENT", "DTSTART:20240131T091500", "DTSTART;VALUE=DATE:20240131", "DURATION:P", "DURATION;P1D", "RRULE;x", " UID:c", "RDATE", "EXDATE;", "DTEND;x"))
	}
	if r.Intn(30) == 0 {
		l[0] = "UID:" + pick(r, "", "a b", "\u00e9", strings.Repeat("u", 31), "a_b", "a\t")
	}
	if r.Intn(30) == 0 {
		l = append(l, "SUMMARY:"+pick(r, ",", ";", `\`, `\N`, `a\,b,c`, `\\\`, strings.Repeat("s", 201), strings.Repeat("\u00e9", 100)+`\n`))
	}
	if r.Intn(30) == 0 {
		l = append(l, "DURATION:"+pick(r, "", "P", "PT", "P1DT", "P1W1D", "PT1S1H", "P1H", "-PT1S", "PT00000001S", "PTS", "PT1", "P1", "P1D1D", "1D", "P32D", "P31DT1S", "P9999999W", "PT1H1D", "p1D", "PT1W", "P1WT1H"))
	}
	r.Shuffle(len(l), func(i, k int) { l[i], l[k] = l[k], l[i] })
	if r.Intn(30) == 0 {
		l = l[1:]
	}
	l = append([]string{"BEGIN:VEVENT"}, append(l, "END:VEVENT")...)
	if r.Intn(60) == 0 {
		l = slices.Delete(l, 0, 1)
	}
	if r.Intn(60) == 0 {
		l = append(l, pick(r, "", "X", "END:VEVENT"))
	}
	return l
}
