package sample

import (
	"lacuna/api"
	"lacuna/event"
	"lacuna/frame"
	"lacuna/rel"
)

// Few are n relations of a text, of the oids from 1 on, without a key.
func Few(n uint32) []rel.Rel {
	var l []rel.Rel
	for oid := range n {
		l = append(l, At(Texts(1, rel.Nothing), 1+oid, 1))
	}
	return l
}

// Into is an insert into one of these.
func Into(oid uint32, text string) event.Event { return Insert(Ref(oid, 1), Cells(text)) }

// Emptied is a truncate of some of these.
func Emptied(oids ...uint32) event.Event {
	var l []rel.Ref
	for _, oid := range oids {
		l = append(l, Ref(oid, 1))
	}
	return Truncate(0, l...)
}

// Framed are a frame's bytes; none, if it is wrong.
func Framed(version, kind uint8, payload []byte) []byte {
	b, e := frame.Make(frame.Frame{Version: version, Kind: kind, Payload: payload})
	if e != api.OK {
		return nil
	}
	return b
}

// Frames are those that bytes are made of; false, if they are made of something else, too.
func Frames(b []byte) ([]frame.Frame, bool) {
	var l []frame.Frame
	for len(b) > 0 {
		f, n, e := frame.Parse(b)
		if e != api.OK {
			return nil, false
		}
		l, b = append(l, f), b[n:]
	}
	return l, true
}

// Parts are bytes in parts of n; the last one may have fewer.
func Parts(b []byte, n int) [][]byte {
	var l [][]byte
	for len(b) > n {
		l = append(l, b[:n])
		b = b[n:]
	}
	return append(l, b)
}

// Uneven are bytes in parts of lengths that show no order, of at most so many, some of none.
func Uneven(b []byte, most int, seed uint32) [][]byte {
	var l [][]byte
	for k := 0; len(b) > 0; k++ {
		m := Mixed(2, seed+uint32(k)*7919)
		n := min((int(m[0])|int(m[1])<<8)%(most+1), len(b))
		l = append(l, b[:n])
		b = b[n:]
	}
	return l
}
