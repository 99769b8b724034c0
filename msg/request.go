package msg

import "annex/api"

func requestHead(r api.Request) []field {
	return []field{
		{fieldClient, small(r.Client)},
		{fieldSeq, great(r.Seq)},
		{fieldAck, great(r.Ack)},
		{fieldEpoch, great(r.Epoch)},
		{fieldOp, small(r.Op)},
	}
}

// requestBody has the fields of the request's operation, as they follow the header.
func requestBody(r api.Request) []field {
	return those(anyRequestBody(r), requestHas(r.Op))
}

// anyRequestBody has the fields of all operations, in the datagram's order.
func anyRequestBody(r api.Request) []field {
	return []field{
		{fieldId, great(r.Id)},
		{fieldOff, small(r.Off)},
		{fieldLen, small(r.Len)},
		{fieldPath, path(r.Path)},
		{fieldName, name(r.Name)},
		{fieldId2, great(r.Id2)},
		{fieldName2, name(r.Name2)},
		{fieldData, content(r.Data)},
	}
}

func requestHas(op int) []fieldNumber {
	switch op {
	case api.Lookup:
		return []fieldNumber{fieldPath}
	case api.Getattr:
		return []fieldNumber{fieldId}
	case api.Read:
		return []fieldNumber{fieldId, fieldOff, fieldLen}
	case api.Write:
		return []fieldNumber{fieldId, fieldOff, fieldData}
	case api.Create, api.Remove, api.Mkdir, api.Rmdir:
		return []fieldNumber{fieldId, fieldName}
	case api.Rename:
		return []fieldNumber{fieldId, fieldName, fieldId2, fieldName2}
	case api.Readdir:
		return []fieldNumber{fieldId, fieldLen, fieldName}
	}
	return nil
}

func placeInRequest(r *api.Request, fields []field) {
	for _, f := range fields {
		switch v := f.value.(type) {
		case small:
			placeSmallInRequest(r, f.no, int(v))
		case great:
			placeGreatInRequest(r, f.no, int(v))
		case path:
			r.Path = string(v)
		case name:
			if f.no == fieldName2 {
				r.Name2 = string(v)
			} else {
				r.Name = string(v)
			}
		case content:
			r.Data = v
		}
	}
}

func placeSmallInRequest(r *api.Request, no fieldNumber, x int) {
	switch no {
	case fieldClient:
		r.Client = x
	case fieldOp:
		r.Op = x
	case fieldOff:
		r.Off = x
	case fieldLen:
		r.Len = x
	}
}

func placeGreatInRequest(r *api.Request, no fieldNumber, x int) {
	switch no {
	case fieldSeq:
		r.Seq = x
	case fieldAck:
		r.Ack = x
	case fieldEpoch:
		r.Epoch = x
	case fieldId:
		r.Id = x
	case fieldId2:
		r.Id2 = x
	}
}
