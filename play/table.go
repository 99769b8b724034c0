package play

import "annex/api"

// row is a step or a call: its number in package api, its name, and a letter for each word behind the name.
type row struct {
	no            int
	name, letters string
}

// The letters of a step's words are the fields that they fill: A, K, M and X, numbers; T is A too, but of where a datagram goes; D is Data, B Keep. (A call's own words stand in the table of the calls.)
var steps = [...]row{
	{api.OpCall, "call", "A"},
	{api.OpClose, "close", "AK"},
	{api.OpTick, "tick", "K"},
	{api.OpServe, "serve", "K"},
	{api.OpGive, "give", "K"},
	{api.OpDrop, "drop", "K"},
	{api.OpCopy, "copy", "K"},
	{api.OpFlip, "flip", "KMX"},
	{api.OpJunk, "junk", "TD"},
	{api.OpArm, "arm", "K"},
	{api.OpCrash, "crash", "B"},
	{api.OpBoot, "boot", ""},
	{api.OpRun, "run", "K"},
	{api.OpLook, "look", ""},
}

// The letters of a call's words are the fields' first ones; small ones are H2 and Name2.
var calls = [...]row{
	{api.Lookup, "lookup", "P"},
	{api.Getattr, "getattr", "H"},
	{api.Read, "read", "HOL"},
	{api.Write, "write", "HOD"},
	{api.Create, "create", "HN"},
	{api.Remove, "remove", "HN"},
	{api.Mkdir, "mkdir", "HN"},
	{api.Rmdir, "rmdir", "HN"},
	{api.Rename, "rename", "HNhn"},
	{api.Readdir, "readdir", "HNL"},
}

// stepNamed is the row of a step's name; without a number, if it is none.
func stepNamed(name string) row {
	for _, r := range steps {
		if r.name == name {
			return r
		}
	}
	return row{}
}

// stepOf is the row of a step's number; without one, if it is none.
func stepOf(no int) row {
	for _, r := range steps {
		if r.no == no {
			return r
		}
	}
	return row{}
}

// callNamed is for calls what stepNamed is for steps.
func callNamed(name string) row {
	for _, r := range calls {
		if r.name == name {
			return r
		}
	}
	return row{}
}

// callOf is for calls what stepOf is for steps.
func callOf(no int) row {
	for _, r := range calls {
		if r.no == no {
			return r
		}
	}
	return row{}
}
