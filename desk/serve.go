package desk

import (
	"sync"

	"ledger/api"
	"ledger/ledger"
)

// job is a request with the place of its frame.
type job struct {
	place   int
	request api.Request
}

// server answers the frames of one call; each reply has its own place, so that workers need no lock for them.
type server struct {
	ledger  *ledger.Ledger
	workers int
	replies [][]byte
}

// serve answers all frames. Requests that change nothing wait to be shared out until one comes that changes what they see.
func (s *server) serve(frames [][]byte) {
	var waiting []job
	for i, frame := range frames {
		r, e := DecodeRequest(frame)
		switch {
		case e != api.OK:
			s.replies[i] = refusal(e)
		case r.Op == api.OpCommit:
			s.share(waiting)
			waiting = nil
			s.answer(job{i, r})
		case r.Op == api.OpStop:
			s.share(waiting)
			s.answer(job{i, r})
			s.refuseFrom(i+1, api.ErrStopped)
			return
		default:
			waiting = append(waiting, job{i, r})
		}
	}
	s.share(waiting)
}

// share lets the workers answer requests that change nothing. The sender is one of the workers: so one alone takes them in their order.
func (s *server) share(jobs []job) {
	helpers := max(min(s.workers, len(jobs))-1, 0)
	queue := make(chan job, helpers)
	var joined sync.WaitGroup
	for range helpers {
		joined.Add(1)
		go func() {
			defer joined.Done()
			for j := range queue {
				s.answer(j)
			}
		}()
	}
	s.send(queue, jobs)
	joined.Wait()
}

// send hands the jobs out and closes the queue; those for which it has no room are answered here.
func (s *server) send(queue chan<- job, jobs []job) {
	for _, j := range jobs {
		select {
		case queue <- j:
		default:
			s.answer(j)
		}
	}
	close(queue)
}

// answer lays the reply to a request into its place.
func (s *server) answer(j job) {
	raw, e := EncodeReply(j.request.Op, ask(s.ledger, j.request))
	if e != api.OK {
		// What a ledger answers can always be laid down, unless its disk was forged.
		raw = refusal(api.ErrCorrupt)
	}
	s.replies[j.place] = raw
}

// refuseFrom refuses all frames from a place on.
func (s *server) refuseFrom(place int, e api.Errno) {
	for i := place; i < len(s.replies); i++ {
		s.replies[i] = refusal(e)
	}
}

// refusal is the reply that holds a refusal alone, whatever was asked.
func refusal(e api.Errno) []byte { return appendNumber(nil, int(e), errSize) }

// ask tells what the ledger answers to a request; a stop asks nothing of it.
func ask(l *ledger.Ledger, r api.Request) (reply api.Reply) {
	var err error
	switch r.Op {
	case api.OpCommit:
		reply.Version, err = l.Commit(r.Batch)
	case api.OpGet:
		var a api.Answer
		a, err = l.Get(r.Key, r.Version)
		reply.Found, reply.Val = a.Found, a.Val
	case api.OpRoot:
		reply.Sum, err = l.Root(r.Version)
	case api.OpProve:
		reply.Raw, err = l.Prove(r.Key, r.Version)
	case api.OpSpan:
		reply.Raw, err = l.Span(r.Key, r.High, r.Version)
	case api.OpScan:
		reply.List, reply.More, err = l.Scan(r.Key, r.High, r.Version, r.Limit)
	case api.OpDiff:
		reply.Changes, err = l.Diff(r.Version, r.Other)
	case api.OpInfo:
		reply.Info, err = l.Info()
	}
	reply.Err = ledger.Code(err)
	return reply
}
