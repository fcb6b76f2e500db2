package datebook

import (
	"errors"
	"strconv"

	"datebook/api"
)

// done is the answer to a command that is done, and has nothing to tell.
const done = "OK\n"

// counted is the line ahead of so many bytes or lines that are told.
func counted(n int) string { return "OK " + strconv.Itoa(n) + "\n" }

// answer is what is answered: what a command tells, or its refusal. Where the store has refused nothing, the line is no command.
func answer(told string, err error) string {
	if err == nil {
		return told
	}
	var r *refusal
	if errors.As(err, &r) {
		return "ERR " + r.numbers() + "\n"
	}
	return "ERR " + strconv.Itoa(int(api.ErrArg)) + "\n"
}

// numbers are those that tell a refusal: the error's, and of a text that is none the line or the reason.
func (r *refusal) numbers() string {
	errno := strconv.Itoa(int(r.errno))
	if r.errno == api.ErrLines || r.errno == api.ErrEvent {
		return errno + blank + strconv.Itoa(r.at)
	}
	return errno
}
