package desk

import "ledger/api"

// shape tells which fields stand in the frames of a kind behind its byte; they stand in this order.
type shape struct {
	key, high, version, other, limit, batch bool
}

// shapeOf tells the shape of a kind of requests, and whether there is that kind.
func shapeOf(op int) (s shape, known bool) {
	switch op {
	case api.OpCommit:
		return shape{batch: true}, true
	case api.OpGet, api.OpProve:
		return shape{key: true, version: true}, true
	case api.OpRoot:
		return shape{version: true}, true
	case api.OpSpan:
		return shape{key: true, high: true, version: true}, true
	case api.OpScan:
		return shape{key: true, high: true, version: true, limit: true}, true
	case api.OpDiff:
		return shape{version: true, other: true}, true
	case api.OpInfo, api.OpStop:
		return shape{}, true
	}
	return shape{}, false
}

// fits tells whether those fields of a request that its kind has can be laid down.
func (s shape) fits(r api.Request) bool {
	switch {
	case s.key && len(r.Key) != keySize,
		s.high && len(r.High) != keySize,
		s.limit && !numberFits(r.Limit, countSize),
		s.batch && len(r.Batch) > api.MaxFrame-kindSize:
		return false
	}
	return true
}

// lay lays a request out whose fields fit.
func (s shape) lay(r api.Request) []byte {
	frame := appendNumber(nil, r.Op, kindSize)
	if s.key {
		frame = append(frame, r.Key...)
	}
	if s.high {
		frame = append(frame, r.High...)
	}
	if s.version {
		frame = appendNumber(frame, r.Version, versionSize)
	}
	if s.other {
		frame = appendNumber(frame, r.Other, versionSize)
	}
	if s.limit {
		frame = appendNumber(frame, r.Limit, countSize)
	}
	if s.batch {
		frame = append(frame, r.Batch...)
	}
	return frame
}

// request takes a request off, and tells whether there is its kind.
func (p *reader) request() (r api.Request, known bool) {
	r.Op = p.number(kindSize)
	s, known := shapeOf(r.Op)
	if s.key {
		r.Key = p.copied(keySize)
	}
	if s.high {
		r.High = p.copied(keySize)
	}
	if s.version {
		r.Version = p.number(versionSize)
	}
	if s.other {
		r.Other = p.number(versionSize)
	}
	if s.limit {
		r.Limit = p.number(countSize)
	}
	if s.batch {
		r.Batch = p.copied(len(p.rest))
	}
	return r, known
}
