package remote

import (
	"bytes"

	"ledger/api"
	"ledger/batch"
	"ledger/client"
	"ledger/desk"
)

// check looks at what was read from a reply, and tells why the session does not take it.
type check func(*Session, api.Reply) api.Errno

// take reads a reply to a kind of request and calls the checks in their order until one refuses.
func (s *Session) take(op int, raw []byte, checks ...check) api.Errno {
	reply, e := desk.DecodeReply(op, raw)
	if e != api.OK {
		return api.ErrReply
	}
	if reply.Err != api.OK {
		return api.ErrServer
	}
	for _, refuses := range checks {
		if e := refuses(s, reply); e != api.OK {
			return e
		}
	}
	return api.OK
}

// proofs takes the replies but for the last, one for each change, and tells the proofs for the changes' keys, and the last reply as it came. Each proof must hold, and its change be right beside what it says.
func (s *Session) proofs(cs []api.Change, replies [][]byte, right func(api.Change, api.Answer) bool) (proofs [][]byte, last []byte, e api.Errno) {
	if len(replies) != len(cs)+1 {
		return nil, nil, api.ErrReply
	}
	for i, c := range cs {
		var said api.Answer
		holds := func(s *Session, r api.Reply) (e api.Errno) {
			said, e = client.Verify(s.width, s.root, c.Key, r.Raw)
			return e
		}
		isRight := func(*Session, api.Reply) api.Errno {
			if !right(c, said) {
				return api.ErrReply
			}
			return api.OK
		}
		keep := func(_ *Session, r api.Reply) api.Errno {
			proofs = append(proofs, r.Raw)
			return api.OK
		}
		if e := s.take(api.OpProve, replies[i], holds, isRight, keep); e != api.OK {
			return nil, nil, e
		}
	}
	return proofs, replies[len(cs)], api.OK
}

// anyEffect is right of every change: a batch may hold some that take none.
func anyEffect(api.Change, api.Answer) bool { return true }

// takesEffect tells whether a key's answer is another one behind the change.
func takesEffect(c api.Change, said api.Answer) bool {
	if c.Del {
		return said.Found
	}
	return !said.Found || !bytes.Equal(said.Val, c.Val)
}

// isNext refuses a commit that made another version than the one behind the trusted one: others were ahead.
func (s *Session) isNext(r api.Reply) api.Errno {
	if r.Version != s.version+1 {
		return api.ErrBehind
	}
	return api.OK
}

// moved reads what has changed from the trusted version to a later one.
func (s *Session) moved(to int, moves []byte) ([]api.Change, api.Errno) {
	if !s.isLater(to) {
		return nil, api.ErrArg
	}
	var cs []api.Change
	e := s.take(api.OpDiff, moves, func(_ *Session, r api.Reply) api.Errno {
		if !rising(r.Changes) {
			return api.ErrReply
		}
		cs = r.Changes
		return api.OK
	})
	return cs, e
}

// rising tells whether the changes stand in the order of their keys, none twice.
func rising(cs []api.Change) bool {
	for i := 1; i < len(cs); i++ {
		if batch.Compare(cs[i-1].Key, cs[i].Key) >= 0 {
			return false
		}
	}
	return true
}

// trust moves the head on, and tells its version.
func (s *Session) trust(version int, root api.Digest) int {
	s.head = head{version: version, root: root}
	return version
}
