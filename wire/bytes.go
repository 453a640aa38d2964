package wire

import (
	"math/bits"

	"stampways/api"
)

// headLength is how many bytes Kind, Number and Version have.
const headLength = 6

// Bytes writes an order with which nothing is wrong.
// Its numbers, and how many there are of a list, are small enough then for the bytes that they have.
func Bytes(o api.Order) ([]byte, api.Errno) {
	if err := Wrong(o); err != api.OK {
		return nil, err
	}
	b := []byte{byte(o.Kind), byte(o.Number >> 16), byte(o.Number >> 8), byte(o.Number), byte(o.Version >> 8), byte(o.Version)}
	switch o.Kind {
	case api.OrderAdd:
		b = append(b, byte(len(o.Rules)))
		for _, r := range o.Rules {
			b = append(b, byte(r.Flow), byte(r.Next))
		}
	case api.OrderStamp:
		b = append(b, byte(len(o.Flows)))
		for _, f := range o.Flows {
			b = append(b, byte(f))
		}
	}
	return append(b, sum(b)), api.OK
}

// Parse reads an order, and tells what is wrong with it.
func Parse(b []byte) (api.Order, api.Errno) {
	last := len(b) - 1
	// How long it is comes first, so that no sum is made of more bytes than an order can have.
	if last < headLength || !isBody(b[headLength:last], int(b[0])) || b[last] != sum(b[:last]) {
		return api.Order{}, api.ErrForm
	}
	o := read(b[:last])
	if err := Wrong(o); err != api.OK {
		return api.Order{}, err
	}
	return o, api.OK
}

// isBody tells whether there are just as many bytes behind Version as the kind, and the count, tell.
func isBody(body []byte, kind int) bool {
	width := shapes()[kind].width
	if width == 0 {
		return len(body) == 0
	}
	return len(body) > 0 && len(body) == 1+width*int(body[0])
}

// read takes bytes without their sum that are known to be as many as they must be.
func read(b []byte) api.Order {
	o := api.Order{
		Kind:    int(b[0]),
		Number:  int(b[1])<<16 | int(b[2])<<8 | int(b[3]),
		Version: int(b[4])<<8 | int(b[5]),
	}
	switch o.Kind {
	case api.OrderAdd:
		for at := headLength + 1; at < len(b); at += 2 {
			o.Rules = append(o.Rules, api.Rule{Version: o.Version, Flow: int(b[at]), Next: int(b[at+1])})
		}
	case api.OrderStamp:
		for _, f := range b[headLength+1:] {
			o.Flows = append(o.Flows, int(f))
		}
	}
	return o
}

// sum turns ahead of each byte, so that places count too: two bytes that were changed for each other are mostly found.
func sum(b []byte) byte {
	var s byte
	for _, c := range b {
		s = bits.RotateLeft8(s, 1) + c
	}
	return s
}
