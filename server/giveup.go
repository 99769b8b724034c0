package server

import (
	"annex/api"
	"annex/journal"
)

// must gives up with an error from below.
func must(code api.Errno) { demand(code == api.OK, code) }

// sure is for calls that answer a value and an error.
func sure[V any](v V, code api.Errno) V {
	must(code)
	return v
}

// demand gives up, if something does not hold.
func demand(holds bool, code api.Errno) {
	if !holds {
		panic(code)
	}
}

// begun is for a journal that has not ended and has no transaction open: it has none to give only where the power is off.
func begun(j *journal.Journal) *journal.Tx {
	t := j.Begin()
	demand(t != nil, api.ErrPower)
	return t
}

// met tells the error that the inside gave up with; OK, if it did not. A panic of another origin is a fault of the program, and goes on.
func met(end any) api.Errno {
	switch end := end.(type) {
	case nil:
		return api.OK
	case api.Errno:
		return end
	default:
		panic(end)
	}
}

// downBy takes the server down, if the inside gave up. What it had is of no more use then, and is not kept alive.
func (s *Server) downBy(end any) api.Errno {
	code := met(end)
	if code != api.OK {
		*s = Server{layout: s.layout, epoch: s.epoch}
	}
	return code
}
