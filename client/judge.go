package client

import (
	"cmp"

	"annex/api"
	"annex/names"
)

// The fields of a call beside Op.
const (
	hasPath = 1 << iota
	hasH
	hasH2
	hasName
	hasName2
	hasOff
	hasLen
	hasData
)

// fieldsOf tells which of them a call has, by its Op.
var fieldsOf = [...]int{
	api.Lookup:  hasPath,
	api.Getattr: hasH,
	api.Read:    hasH | hasOff | hasLen,
	api.Write:   hasH | hasOff | hasData,
	api.Create:  hasH | hasName,
	api.Remove:  hasH | hasName,
	api.Mkdir:   hasH | hasName,
	api.Rmdir:   hasH | hasName,
	api.Rename:  hasH | hasName | hasH2 | hasName2,
	api.Readdir: hasH | hasName | hasLen,
}

// judge is the operation that a call asks for, or the first of what stands against it.
func (c *Client) judge(call api.Call) (operation, api.Errno) {
	if call.Op < api.Lookup || call.Op > api.Readdir {
		return operation{}, api.ErrArg
	}
	records, code := c.records(call)
	if code != api.OK {
		return operation{}, code
	}
	o := operation{call: call, records: records}
	_, added := o.path()
	return o, cmp.Or(checkTexts(call), checkFields(call), added, c.checkWindow())
}

// records are those of H and H2, where the call has them.
func (c *Client) records(call api.Call) ([]*record, api.Errno) {
	var list []*record
	has := fieldsOf[call.Op]
	if has&hasH != 0 {
		list = append(list, c.record(call.H))
	}
	if has&hasH2 != 0 {
		list = append(list, c.record(call.H2))
	}
	for _, r := range list {
		if r == nil {
			return nil, api.ErrHandle
		}
	}
	return list, api.OK
}

// checkTexts judges a path and names, where the call has them.
func checkTexts(call api.Call) api.Errno {
	has := fieldsOf[call.Op]
	var path, name, name2 api.Errno
	if has&hasPath != 0 {
		_, path = names.Split(call.Path)
	}
	if has&hasName != 0 && (call.Name != "" || call.Op != api.Readdir) { // READDIR from the first entry on has none
		name = names.Check(call.Name)
	}
	if has&hasName2 != 0 {
		name2 = names.Check(call.Name2)
	}
	return cmp.Or(path, name, name2)
}

// checkFields judges the bounds of a call's fields; one that it does not have must be zero. What checkTexts and the table have judged is always within.
func checkFields(call api.Call) api.Errno {
	most := api.MaxIO
	if call.Op == api.Readdir {
		most = api.MaxList
	}
	for _, f := range []struct{ field, is, least, most int }{
		{hasPath, len(call.Path), 1, api.MaxPath},
		{hasH, call.H, 0, api.MaxHandles - 1},
		{hasH2, call.H2, 0, api.MaxHandles - 1},
		{hasName, len(call.Name), 0, api.MaxName},
		{hasName2, len(call.Name2), 1, api.MaxName},
		{hasOff, call.Off, 0, api.MaxSize},
		{hasLen, call.Len, 1, most},
		{hasData, len(call.Data), 1, api.MaxIO},
	} {
		if fieldsOf[call.Op]&f.field == 0 {
			f.least, f.most = 0, 0
		}
		if f.is < f.least || f.is > f.most {
			return api.ErrArg
		}
	}
	return api.OK
}

// checkWindow refuses one call more than may fly.
func (c *Client) checkWindow() api.Errno {
	if len(c.flying) == c.window {
		return api.ErrWindowFull
	}
	return api.OK
}
