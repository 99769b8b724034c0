package msg

import (
	"slices"

	"annex/api"
	"annex/names"
)

const (
	maxId      = 1<<49 - 1
	entrySize  = 32                              // what an entry adds to the size of its directory
	maxDirSize = entrySize * (api.MaxInodes - 1) // the root is nobody's entry
)

func judgeRequestHead(r api.Request) api.Errno {
	switch {
	case !isClient(r.Client):
		return api.ErrClient
	case !within(r.Seq, 1, api.MaxNumber) || !within(r.Ack, 0, r.Seq-1):
		return api.ErrSeq
	case !within(r.Epoch, 0, api.MaxNumber):
		return api.ErrEra
	case !isOp(r.Op):
		return api.ErrOp
	}
	return api.OK
}

func judgeReplyHead(r api.Reply) api.Errno {
	switch {
	case !isClient(r.Client):
		return api.ErrClient
	case !within(r.Seq, 1, api.MaxNumber):
		return api.ErrSeq
	case !within(r.Epoch, 1, api.MaxNumber):
		return api.ErrEra
	case !isOp(r.Op):
		return api.ErrOp
	case !isStatus(r.Status):
		return api.ErrStatus
	}
	return api.OK
}

func judgeRequestBody(r api.Request) api.Errno {
	return judgeBody(r.Op, anyRequestBody(r), requestHas(r.Op))
}

func judgeReplyBody(r api.Reply) api.Errno {
	if r.More && len(r.List) == 0 {
		return api.ErrField
	}
	return judgeBody(r.Op, anyReplyBody(r), replyHas(r.Op, r.Status))
}

func judgeBody(op int, fields []field, has []fieldNumber) api.Errno {
	for _, f := range fields {
		if slices.Contains(has, f.no) {
			if !mayStand(op, f) {
				return api.ErrField
			}
		} else if !isZero(f.value) {
			return api.ErrField
		}
	}
	return api.OK
}

func isZero(v value) bool {
	switch v := v.(type) {
	case small:
		return v == 0
	case great:
		return v == 0
	case flag:
		return !bool(v)
	case path:
		return v == ""
	case name:
		return v == ""
	case content:
		return len(v) == 0
	case attr:
		return v == attr{}
	case entries:
		return len(v) == 0
	}
	return false
}

// mayStand judges a field that a message of the operation has. (Only READ has Data in its reply, only WRITE in its request: the operation tells them apart.)
func mayStand(op int, f field) bool {
	switch v := f.value.(type) {
	case small:
		if f.no == fieldOff {
			return within(int(v), 0, api.MaxSize)
		}
		return within(int(v), 1, mostLen(op))
	case great:
		return isId(int(v))
	case flag:
		return true
	case path:
		_, code := names.Split(string(v))
		return code == api.OK
	case name:
		return op == api.Readdir && v == "" || isName(string(v))
	case content:
		return len(v) <= api.MaxIO && (op == api.Read || len(v) > 0)
	case attr:
		return isAttr(op, v)
	case entries:
		return isList(v)
	}
	return false
}

func mostLen(op int) int {
	if op == api.Readdir {
		return api.MaxList
	}
	return api.MaxIO
}

func isAttr(op int, a attr) bool {
	return isId(a.Id) && kindFits(op, a.Kind) && sizeFits(a.Kind, a.Size) && within(a.Change, 0, api.MaxNumber)
}

func kindFits(op, kind int) bool {
	switch op {
	case api.Read, api.Write, api.Create:
		return kind == api.File
	case api.Mkdir:
		return kind == api.Dir
	}
	return isKind(kind)
}

func sizeFits(kind, size int) bool {
	if kind == api.Dir {
		return within(size, 0, maxDirSize) && size%entrySize == 0
	}
	return within(size, 0, api.MaxSize)
}

func isList(list entries) bool {
	if len(list) > api.MaxList {
		return false
	}
	for i, e := range list {
		if !isName(e.Name) || !isId(e.Id) || !isKind(e.Kind) {
			return false
		}
		if i > 0 && e.Name <= list[i-1].Name {
			return false
		}
	}
	return true
}

func isStatus(code api.Errno) bool {
	switch code {
	case api.OK, api.ErrStale, api.ErrInodes, api.ErrFBig, api.ErrNoEnt, api.ErrExist, api.ErrNotDir,
		api.ErrIsDir, api.ErrNotEmpty, api.ErrInside, api.ErrQuota, api.ErrBusy, api.ErrEpoch:
		return true
	}
	return false
}

func isClient(x int) bool { return within(x, 0, api.MaxClients-1) }

func isOp(x int) bool { return within(x, api.Lookup, api.Readdir) }

func isId(x int) bool { return within(x, 1, maxId) }

func isKind(x int) bool { return x == api.File || x == api.Dir }

func isName(s string) bool { return names.Check(s) == api.OK }

func within(x, least, most int) bool { return least <= x && x <= most }
