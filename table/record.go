package table

import (
	"tether/api"
	"tether/wire"
)

// How a record tells what becomes of a key.
const (
	goes  = 0
	comes = 1
)

// Record answers the bytes of changes.
func Record(ops []api.Op) string {
	parts := []string{number(len(ops))}
	for _, op := range ops {
		if op.Gone {
			parts = append(parts, number(goes), wire.Text(op.Key))
		} else {
			parts = append(parts, number(comes), wire.Text(op.Key), wire.Text(op.Value))
		}
	}
	return wire.Join(parts...)
}

// Ops answers the changes of bytes.
func Ops(s string) ([]api.Op, api.Errno) {
	r := wire.New(s)
	count, e := r.Uint()
	if e != api.OK {
		return nil, e
	}
	var out []api.Op
	// No room is made ahead: the count may be any number, however few bytes stand behind it.
	for range count {
		op, e := readOp(r)
		if e != api.OK {
			return nil, e
		}
		out = append(out, op)
	}
	if e := r.Done(); e != api.OK {
		return nil, e
	}
	return out, api.OK
}

// readOp reads a change.
func readOp(r *wire.Reader) (api.Op, api.Errno) {
	what, e := r.Uint()
	if e != api.OK {
		return api.Op{}, e
	}
	if what != goes && what != comes {
		return api.Op{}, api.ErrForm
	}
	key, e := r.Text()
	if e != api.OK {
		return api.Op{}, e
	}
	if what == goes {
		return api.Op{Key: key, Gone: true}, api.OK
	}
	value, e := r.Text()
	if e != api.OK {
		return api.Op{}, e
	}
	return api.Op{Key: key, Value: value}, api.OK
}

// number answers the bytes of a number from 0 on.
func number(n int) string {
	s, _ := wire.Uint(n)
	return s
}
