package event

import (
	"strings"

	"datebook/api"
	"datebook/pieces"
)

// rule is a rule, and the form of the dates of its event.
type rule struct {
	api.Rule
	form form
}

// part is a part of a rule: its name, how its value is taken into a rule, and how it is written: as nothing, if it need not be there.
type part struct {
	name  string
	read  func(*rule, string) error
	write func(*rule) string
}

// parts are all parts of a rule, in the order in which they are written.
func parts() [9]part {
	return [9]part{
		{"FREQ", (*rule).readFreq, (*rule).writeFreq},
		{"INTERVAL", (*rule).readEvery, (*rule).writeEvery},
		{"COUNT", (*rule).readCount, (*rule).writeCount},
		{"UNTIL", (*rule).readUntil, (*rule).writeUntil},
		{"BYMONTH", (*rule).readMonths, (*rule).writeMonths},
		{"BYMONTHDAY", (*rule).readMonthDays, (*rule).writeMonthDays},
		{"BYDAY", (*rule).readWeekdays, (*rule).writeWeekdays},
		{"BYSETPOS", (*rule).readPlaces, (*rule).writePlaces},
		{"WKST", (*rule).readFirst, (*rule).writeFirst},
	}
}

// ruleReader goes through a rule; its pieces are the parts.
type ruleReader struct {
	pieces.Reader
	rule rule
	seen [9]bool // which parts there were
}

// readRule takes the rule.
func (r *eventReader) readRule() error {
	if !r.has(ruleLine) {
		return nil
	}
	reader := ruleReader{Reader: pieces.Of(r.value(ruleLine)), rule: rule{form: r.form}}
	reader.rule.Every = 1
	for piece := range reader.All(";") {
		if err := reader.readPart(piece); err != nil {
			return reader.Wrong(err)
		}
	}
	if reader.rule.Freq == 0 {
		return &partError{name: "FREQ", cause: errMissing}
	}
	r.event.Rule = reader.rule.Rule
	return nil
}

// readPart takes one part.
func (r *ruleReader) readPart(piece string) error {
	name, value, _ := strings.Cut(piece, "=")
	for i, p := range parts() {
		if p.name != name {
			continue
		}
		if r.seen[i] {
			return &partError{name: name, cause: errTwice}
		}
		r.seen[i] = true
		if err := p.read(&r.rule, value); err != nil {
			return &partError{name: name, cause: err}
		}
		return nil
	}
	return errPart
}

// writeRule writes a rule.
func writeRule(r *rule) string {
	var out []string
	for _, p := range parts() {
		if value := p.write(r); value != "" {
			out = append(out, p.name+"="+value)
		}
	}
	return strings.Join(out, ";")
}

// checkTogether tells whether the parts of the rule go together.
func (r *eventReader) checkTogether() error {
	rule := r.event.Rule
	narrow := len(rule.Months) + len(rule.MonthDays) + len(rule.Weekdays)
	switch {
	case rule.Count > 0 && rule.Ends:
		return errTogether
	case rule.Freq == api.Weekly && len(rule.MonthDays) > 0:
		return errTogether
	case rule.Freq != api.Monthly && rule.Freq != api.Yearly && hasNumber(rule.Weekdays):
		return errTogether
	case len(rule.MonthDays) > 0 && hasNumber(rule.Weekdays):
		return errTogether
	case len(rule.Places) > 0 && narrow == 0:
		return errTogether
	}
	return nil
}

// hasNumber tells whether a number stands ahead of a weekday.
func hasNumber(l []api.Weekday) bool {
	for _, w := range l {
		if w.N != 0 {
			return true
		}
	}
	return false
}
