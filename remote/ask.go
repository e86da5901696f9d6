package remote

import (
	"ledger/api"
	"ledger/batch"
	"ledger/desk"
)

// frameOf lays a request out. Each one that a session makes fits: its keys are keys, and a batch of MaxOps changes is shorter than MaxFrame.
func frameOf(r api.Request) []byte {
	frame, _ := desk.EncodeRequest(r)
	return frame
}

// framesOf tells the frames that ask for the proofs of the changes' keys, and behind them that of one request more.
func (s *Session) framesOf(cs []api.Change, last api.Request) [][]byte {
	var frames [][]byte
	for _, c := range cs {
		frames = append(frames, s.AskGet(c.Key))
	}
	return append(frames, frameOf(last))
}

// planned tells the changes of a batch with their keys rising, and its bytes. Build is asked ahead of Normal, which takes longer lists and so would tell of another fault first.
func (s *Session) planned(cs []api.Change) ([]api.Change, []byte, api.Errno) {
	if _, e := batch.Build(cs...); e != api.OK {
		return nil, nil, e
	}
	if s.version == api.MaxVersion {
		return nil, nil, api.ErrArg
	}
	sorted, e := batch.Normal(cs)
	if e != api.OK {
		return nil, nil, e
	}
	raw, e := batch.Build(sorted...)
	return sorted, raw, e
}

// isLater tells whether there may be a version behind the trusted one that has this number.
func (s *Session) isLater(to int) bool { return to > s.version && to <= api.MaxVersion }
