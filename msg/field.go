package msg

import (
	"slices"

	"annex/api"
	"annex/bits"
)

// fieldNumber says which field of a message a value is of. A request and a reply have theirs in this order.
type fieldNumber int

const (
	fieldClient fieldNumber = iota
	fieldSeq
	fieldAck
	fieldEpoch
	fieldOp
	fieldStatus
	fieldId
	fieldOff
	fieldLen
	fieldPath
	fieldName
	fieldId2
	fieldName2
	fieldAttr
	fieldData
	fieldList
	fieldMore
)

// field is a field of a message with what stands in it.
type field struct {
	no    fieldNumber
	value value
}

func putAll(b []byte, fields []field) []byte {
	for _, f := range fields {
		b = f.value.put(b)
	}
	return b
}

// takeAll reads fields of the kinds and in the order of those handed in.
func takeAll(r *bits.Reader, fields []field) ([]field, api.Errno) {
	taken := make([]field, 0, len(fields))
	for _, f := range fields {
		v, code := f.value.take(r)
		if code != api.OK {
			return nil, code
		}
		taken = append(taken, field{f.no, v})
	}
	code, _ := r.Err()
	return taken, code
}

// takeLast reads fields behind which nothing may be left.
func takeLast(r *bits.Reader, fields []field) ([]field, api.Errno) {
	taken, code := takeAll(r, fields)
	if code != api.OK {
		return nil, code
	}
	return taken, r.Close()
}

// those answers which of the fields have one of the numbers, in the order of the fields.
func those(fields []field, has []fieldNumber) []field {
	var some []field
	for _, f := range fields {
		if slices.Contains(has, f.no) {
			some = append(some, f)
		}
	}
	return some
}
