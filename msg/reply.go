package msg

import "annex/api"

func replyHead(r api.Reply) []field {
	return []field{
		{fieldClient, small(r.Client)},
		{fieldSeq, great(r.Seq)},
		{fieldEpoch, great(r.Epoch)},
		{fieldOp, small(r.Op)},
		{fieldStatus, small(r.Status)},
	}
}

// replyBody has the fields of the reply's operation and status, as they follow the header.
func replyBody(r api.Reply) []field {
	return those(anyReplyBody(r), replyHas(r.Op, r.Status))
}

// anyReplyBody has the fields of the replies to all operations, in the datagram's order.
func anyReplyBody(r api.Reply) []field {
	return []field{
		{fieldAttr, attr(r.Attr)},
		{fieldData, content(r.Data)},
		{fieldList, entries(r.List)},
		{fieldMore, flag(r.More)},
	}
}

func replyHas(op int, status api.Errno) []fieldNumber {
	if status != api.OK {
		return nil
	}
	switch op {
	case api.Lookup, api.Getattr, api.Write, api.Create, api.Mkdir:
		return []fieldNumber{fieldAttr}
	case api.Read:
		return []fieldNumber{fieldAttr, fieldData}
	case api.Readdir:
		return []fieldNumber{fieldList, fieldMore}
	}
	return nil
}

func placeInReply(r *api.Reply, fields []field) {
	for _, f := range fields {
		switch v := f.value.(type) {
		case small:
			placeSmallInReply(r, f.no, int(v))
		case great:
			placeGreatInReply(r, f.no, int(v))
		case attr:
			r.Attr = api.Attr(v)
		case content:
			r.Data = v
		case entries:
			r.List = v
		case flag:
			r.More = bool(v)
		}
	}
}

func placeSmallInReply(r *api.Reply, no fieldNumber, x int) {
	switch no {
	case fieldClient:
		r.Client = x
	case fieldOp:
		r.Op = x
	case fieldStatus:
		r.Status = api.Errno(x)
	}
}

func placeGreatInReply(r *api.Reply, no fieldNumber, x int) {
	switch no {
	case fieldSeq:
		r.Seq = x
	case fieldEpoch:
		r.Epoch = x
	}
}
