package broker

import (
	"slices"

	"tailrace/api"
	"tailrace/bounds"
	"tailrace/coord"
)

// findSender of a name; nil: there is none. The next new sender may move all of them.
func findSender(w *api.World, name string) *api.Sender {
	at := slices.IndexFunc(w.Senders, func(s api.Sender) bool { return s.Name == name })
	if at < 0 {
		return nil
	}
	return &w.Senders[at]
}

// initSender: a producer, as the coordinator knows it, and its sender, which has sent nothing yet.
func initSender(w *api.World, a api.Act) api.Answer {
	c, pid, ver, refused := coord.Init(w.Coord, a.Name)
	if refused != api.OK {
		return refuse(refused)
	}
	w.Coord = c
	fresh := api.Sender{
		Name: a.Name,
		Pid:  pid,
		Ver:  ver,
		Seqs: make([]int, len(w.Parts)),
		Last: make([]api.Entry, len(w.Parts)),
	}
	if s := findSender(w, a.Name); s != nil {
		*s = fresh
	} else {
		w.Senders = append(w.Senders, fresh)
	}
	return api.Answer{N: ver}
}

// begin a transaction; the coordinator hears of it when something is sent.
func begin(w *api.World, a api.Act) api.Answer {
	s := findSender(w, a.Name)
	switch {
	case s == nil:
		return refuse(api.ErrNone)
	case s.In:
		return refuse(api.ErrTwice)
	}
	s.In = true
	return api.Answer{}
}

// isLost: is there such a way to be lost?
func isLost(lost int) bool { return bounds.Within(lost, api.Kept, api.NotTold) }

// call what may be lost on the way there, or on the way back.
func call(lost int, deliver func() api.Answer) api.Answer {
	if lost == api.NotCome {
		return refuse(api.ErrLost)
	}
	answer := deliver()
	if lost == api.NotTold {
		return refuse(api.ErrLost)
	}
	return answer
}

// send something new, or what was sent last to a part.
func send(w *api.World, a api.Act) api.Answer {
	s := findSender(w, a.Name)
	if refused := checkSend(w, s, a); refused != api.OK {
		return refuse(refused)
	}
	if a.Kind == api.Send {
		compose(s, a)
	}
	return call(a.Lost, func() api.Answer { return deliver(w, s.Name, a.Part, s.Last[a.Part]) })
}

// checkSend: what a sender refuses itself, ahead of any call; nil: there is no such sender.
func checkSend(w *api.World, s *api.Sender, a api.Act) api.Errno {
	switch {
	case s == nil || !hasPart(w, a.Part):
		return api.ErrNone
	case !isLost(a.Lost):
		return api.ErrKind
	case a.Kind == api.Again && s.Last[a.Part] == api.Entry{}:
		return api.ErrIdle
	case a.Kind == api.Send && len(a.Text) > api.MaxText:
		return api.ErrSize
	}
	return api.OK
}

// compose what is sent to a part. Its number is used up, whatever comes of it: what was lost may have come.
func compose(s *api.Sender, a api.Act) {
	s.Last[a.Part] = api.Entry{
		Pid:  s.Pid,
		Ver:  s.Ver,
		Seq:  s.Seqs[a.Part],
		Kind: api.Data,
		Txn:  s.In,
		Text: a.Text,
	}
	s.Seqs[a.Part]++
}

// deliver an entry to a part. The coordinator hears of the part first: else nobody would know that a marker has to come there.
func deliver(w *api.World, name string, at int, x api.Entry) api.Answer {
	if x.Txn {
		c, refused := coord.Add(w.Coord, name, x.Ver, at)
		if refused != api.OK {
			return refuse(refused)
		}
		w.Coord = c
	}
	return put(w, at, x)
}

// finish a transaction. A sender that was not told so is in it still, and may ask again.
func finish(w *api.World, a api.Act) api.Answer {
	s := findSender(w, a.Name)
	switch {
	case s == nil:
		return refuse(api.ErrNone)
	case !isLost(a.Lost) || !bounds.Within(a.N, 0, 1):
		return refuse(api.ErrKind)
	case !s.In:
		return refuse(api.ErrState)
	}
	answer := call(a.Lost, func() api.Answer { return end(w, s.Name, s.Ver, a.N == 1) })
	if answer.Code == api.OK {
		s.In = false
		forget(s)
	}
	return answer
}

// end a producer's transaction.
func end(w *api.World, name string, ver int, commit bool) api.Answer {
	c, refused := coord.End(w.Coord, name, ver, commit)
	if refused != api.OK {
		return refuse(refused)
	}
	w.Coord = c
	return api.Answer{}
}

// forget what was sent last of a transaction that is over: sent again, it would come into the next one.
func forget(s *api.Sender) {
	for at, last := range s.Last {
		if last.Txn {
			s.Last[at] = api.Entry{}
		}
	}
}
