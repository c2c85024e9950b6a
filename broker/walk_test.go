package broker

import (
	"math/rand"
	"slices"
	"strconv"
	"strings"
	"testing"

	"tailrace/api"
	"tailrace/coord"
	"tailrace/group"
	"tailrace/part"
)

// walk: a script that is drawn act by act, by what was answered so far.
type walk struct {
	d       *rand.Rand
	setup   api.Setup
	w       api.World
	acts    []api.Act
	answers []api.Answer
}

func newWalk(d *rand.Rand, s api.Setup) *walk {
	w, _ := newWorld(s)
	return &walk{d: d, setup: s, w: w}
}

func (k *walk) do(a api.Act) api.Answer {
	answer := do(&k.w, a)
	k.acts, k.answers = append(k.acts, a), append(k.answers, answer)
	return answer
}

// goesOn: is there room for more acts? A walk that finds no end is told by Run, which refuses it.
func (k *walk) goesOn() bool { return len(k.acts) <= api.MaxActs }

// maybeLost: a call that now and then is lost.
func (k *walk) maybeLost(a api.Act) api.Act {
	if k.d.Intn(3) == 0 {
		a.Lost = k.d.Intn(3)
	}
	return a
}

// wrong: what of the walk is not as it should be; empty: nothing.
func (k *walk) wrong() string {
	answers, w, e := Run(k.setup, k.acts)
	if e != api.OK || told(answers) != told(k.answers) || told(w) != told(k.w) {
		return "Run tells something else"
	}
	for _, p := range w.Parts {
		if part.Check(p) != api.OK {
			return "a part may not be"
		}
	}
	if coord.Check(w.Coord) != api.OK || group.Check(w.Group) != api.OK {
		return "the coordinator or the group may not be"
	}
	return ""
}

// Fates of what a client sends.
const (
	open     = iota // it is not known yet
	read            // it is read, once
	unread          // it is not read
	anything        // nobody was told
)

// client that sends so long until it is told, and knows what is to come of that.
type client struct {
	name    string
	known   bool
	in      bool
	left    int         // so many texts are to come in its transaction
	pending int         // a part to which it has sent, and was not told; -1: none
	ending  int         // it has asked for that end, and was not told; -1: it has not
	now     []int       // what it has sent, and does not know the fate of
	fates   map[int]int // of all texts, by their numbers
	sent    map[int][]string
}

func (c *client) settle(fate int) {
	for _, text := range c.now {
		c.fates[text] = fate
	}
	c.now, c.in, c.pending, c.ending = nil, false, -1, -1
}

// restart with a new version: what was not ended is aborted.
func (c *client) restart(k *walk) {
	if k.do(initOf(c.name)).Code != api.OK {
		return
	}
	fate := anything
	if c.in {
		fate = unread
	}
	c.settle(fate)
	c.known = true
}

// step of a client: one act.
func (c *client) step(k *walk) {
	switch {
	case !c.known || c.ending < 0 && k.d.Intn(40) == 0:
		c.restart(k)
	case c.pending >= 0:
		c.hear(k.do(k.maybeLost(again(c.name, c.pending))))
	case c.ending >= 0 || c.in && c.left == 0:
		c.finish(k)
	case !c.in && k.d.Intn(2) == 0:
		k.do(begins(c.name))
		c.in, c.left = true, 1+k.d.Intn(4)
	default:
		c.send(k)
	}
}

func (c *client) send(k *walk) {
	to, text := k.d.Intn(len(k.w.Parts)), len(c.fates)
	c.fates[text] = open
	c.now = append(c.now, text)
	c.sent[to] = append(c.sent[to], strconv.Itoa(text))
	c.pending = to
	c.left--
	c.hear(k.do(k.maybeLost(sends(c.name, to, strconv.Itoa(text)))))
}

// hear what came of what was sent.
func (c *client) hear(answer api.Answer) {
	switch answer.Code {
	case api.OK:
		c.pending = -1
		if !c.in {
			c.settle(read)
		}
	case api.ErrFence:
		// It took too long: as long as it does not restart, it is refused.
		c.known = false
	}
}

func (c *client) finish(k *walk) {
	if c.ending < 0 {
		c.ending = k.d.Intn(2)
	}
	switch k.do(k.maybeLost(finishes(c.name, c.ending))).Code {
	case api.OK:
		c.settle([]int{unread, read}[c.ending])
	case api.ErrFence:
		c.known = false
	}
}

// idle: all that it has sent is told.
func (c *client) idle() bool { return c.known && !c.in && c.pending < 0 && c.ending < 0 }

// other replica than the leader.
func other(k *walk, at int) int {
	p := k.w.Parts[at]
	return (p.Leader + 1 + k.d.Intn(max(1, len(p.Replicas)-1))) % len(p.Replicas)
}

// catchUp: a replica has all that the leader has, and both know it.
func catchUp(k *walk, at, r int) {
	k.do(of(api.Rise, at, r))
	for k.goesOn() && k.do(of(api.Fetch, at, r)).N > 0 {
	}
	k.do(of(api.Sync, at, r))
	k.do(of(api.Fetch, at, r))
	k.do(of(api.Expand, at, r))
}

// handOver: another one leads, and nothing is lost by that.
func handOver(k *walk, at int) {
	leader, r := k.w.Parts[at].Leader, other(k, at)
	if r != leader {
		catchUp(k, at, r)
	}
	k.do(crash(at, leader, api.MaxBytes))
	k.do(of(api.Rise, at, leader))
	k.do(of(api.Elect, at, r))
}

// disturb a part in a way by which nothing is lost.
func disturb(k *walk) {
	at := k.d.Intn(len(k.w.Parts))
	r := other(k, at)
	switch k.d.Intn(16) {
	case 0, 1, 2, 3:
		k.do(of(api.Fetch, at, r))
	case 4, 5:
		k.do(of(api.Sync, at, k.d.Intn(len(k.w.Parts[at].Replicas))))
	case 6, 7, 8, 9:
		k.do(marks(k.d.Intn(2)))
	case 10:
		k.do(ticks(k.d.Intn(3)))
	case 11:
		if r != k.w.Parts[at].Leader {
			k.do(crash(at, r, k.d.Intn(50)))
		}
	case 12:
		k.do(of(api.Rise, at, r))
	case 13:
		k.do([]api.Act{of(api.Shrink, at, r), of(api.Wipe, at, r)}[k.d.Intn(2)])
	case 14:
		k.do(of(api.Expand, at, r))
	default:
		if k.d.Intn(3) == 0 {
			handOver(k, at)
		}
	}
}

// level: all replicas have all that their leaders have.
func level(k *walk) {
	for at, p := range k.w.Parts {
		for r := range p.Replicas {
			if r != p.Leader {
				catchUp(k, at, r)
			}
		}
		k.do(of(api.Sync, at, p.Leader))
	}
}

// quiet: all clients come to an end, and all that is kept is known to be.
func quiet(k *walk, clients []*client) {
	level(k)
	for _, c := range clients {
		for k.goesOn() && !c.idle() {
			c.step(k)
			k.do(marks(0))
		}
	}
	for k.goesOn() && k.do(marks(0)).Code == api.OK {
	}
	level(k)
}

// readAll of a part, by a member that stores how far it has read.
func readAll(k *walk, at int) []string {
	gen := k.do(joins("cy")).N
	var all []string
	for k.goesOn() {
		answer := k.do(polls("cy", at, 1+k.d.Intn(api.MaxRead)))
		if answer.Code != api.OK || len(answer.Texts) == 0 {
			break
		}
		all = append(all, answer.Texts...)
		k.do(stores("cy", gen, at, answer.N))
	}
	k.do(leaves("cy"))
	return all
}

// outcome of a walk: is what is read of a part what the clients were told, each text once, and in its client's order?
func outcome(fates map[int]int, clients []*client, at int, texts []string) string {
	found := 0
	for _, c := range clients {
		rest := texts
		for _, text := range c.sent[at] {
			n, _ := strconv.Atoi(text)
			place := slices.Index(rest, text)
			switch fate := fates[n]; {
			case fate == open:
				return text + " has no fate"
			case fate == read && place < 0:
				return text + " is not read, or not in its order"
			case fate == unread && place >= 0:
				return text + " is read, and should not be"
			case place >= 0:
				rest = rest[place+1:]
				found++
			}
		}
	}
	if found < len(texts) {
		return "something is read twice, or was not sent there"
	}
	return ""
}

// TestClients: what comes of all promises: what is sent again comes once, of a transaction all is read, or nothing, whatever is lost on the way.
func TestClients(t *testing.T) {
	d := rand.New(rand.NewSource(7))
	count := map[int]int{}
	for range 300 {
		replicas := 1 + d.Intn(3)
		k := newWalk(d, api.Setup{Parts: 1 + d.Intn(3), Replicas: replicas, Few: 1 + d.Intn(2)%replicas, Wait: 5 + d.Intn(9)})
		for at := range k.w.Parts {
			k.do(of(api.Elect, at, d.Intn(replicas)))
		}
		fates := map[int]int{}
		var clients []*client
		for _, name := range []string{"ann", "bob", "cid"} {
			clients = append(clients, &client{name: name, pending: -1, ending: -1, fates: fates, sent: map[int][]string{}})
		}
		for len(k.acts) < 150 {
			clients[d.Intn(3)].step(k)
			disturb(k)
		}
		quiet(k, clients)
		for at := range k.w.Parts {
			texts := readAll(k, at)
			if wrong := outcome(fates, clients, at, texts); wrong != "" {
				t.Fatalf("part %d: %s: %v; %+v of %+v", at, wrong, texts, k.answers, k.acts)
			}
		}
		if wrong := k.wrong(); wrong != "" {
			t.Fatalf("%s: %+v", wrong, k.acts)
		}
		for _, fate := range fates {
			count[fate]++
		}
	}
	if count[read] < 2000 || count[unread] < 1000 {
		t.Errorf("%v: these walks tell too little", count)
	}
}

// drawnAct of any kind, which mostly says what may be.
func drawnAct(d *rand.Rand, s api.Setup) api.Act {
	a := api.Act{
		Kind: api.Init + d.Intn(api.Offsets),
		Name: []string{"ann", "bob", "cid"}[d.Intn(3)],
		Part: d.Intn(s.Parts),
		N:    d.Intn(3),
		M:    d.Intn(30) - 1,
		Text: strings.Repeat("x", d.Intn(api.MaxText+3)),
	}
	switch d.Intn(6) {
	case 0, 1, 2:
		a.Kind = []int{api.Send, api.Again, api.Begin, api.Finish, api.Fetch, api.Sync, api.Mark, api.Poll, api.Elect, api.Rise}[d.Intn(10)]
	case 3:
		a.Lost = d.Intn(5) - 1
	case 4:
		a.Part, a.N = d.Intn(s.Parts+2)-1, d.Intn(5)-1
	}
	return a
}

// witness of senders: it goes by acts and answers alone.
type witness struct {
	parts   int
	senders []api.Sender
}

func (s *witness) see(a api.Act, answer api.Answer) {
	at := slices.IndexFunc(s.senders, func(sender api.Sender) bool { return sender.Name == a.Name })
	switch {
	case a.Kind == api.Init && answer.Code == api.OK && at < 0:
		s.senders = append(s.senders, fresh(a.Name, len(s.senders)+1, answer.N, s.parts))
	case a.Kind == api.Init && answer.Code == api.OK:
		s.senders[at] = fresh(a.Name, at+1, answer.N, s.parts)
	case a.Kind == api.Begin && answer.Code == api.OK:
		s.senders[at].In = true
	case a.Kind == api.Send && answer.Code != api.ErrNone && answer.Code != api.ErrKind && answer.Code != api.ErrSize:
		s.sent(&s.senders[at], a)
	case a.Kind == api.Finish && answer.Code == api.OK:
		s.senders[at].In = false
		for i, e := range s.senders[at].Last {
			if e.Txn {
				s.senders[at].Last[i] = api.Entry{}
			}
		}
	}
}

func (s *witness) sent(sender *api.Sender, a api.Act) {
	sender.Last[a.Part] = api.Entry{Pid: sender.Pid, Ver: sender.Ver, Seq: sender.Seqs[a.Part], Kind: api.Data, Txn: sender.In, Text: a.Text}
	sender.Seqs[a.Part]++
}

// mayChange: may an act that is refused leave something?
func mayChange(a api.Act) bool {
	return a.Kind == api.Send || a.Kind == api.Again || a.Kind == api.Finish && a.Lost == api.NotTold
}

// TestDrawn: at drawn scripts what is refused tells and changes nothing, and senders are as the answers tell.
func TestDrawn(t *testing.T) {
	d := rand.New(rand.NewSource(8))
	came := map[int]int{}
	for range 500 {
		replicas := 1 + d.Intn(3)
		k := newWalk(d, api.Setup{Parts: 1 + d.Intn(3), Replicas: replicas, Few: 1 + d.Intn(replicas), Wait: 3 + d.Intn(9)})
		s := witness{parts: k.setup.Parts}
		for range 120 {
			before, a := told(k.w), drawnAct(d, k.setup)
			answer := k.do(a)
			s.see(a, answer)
			if answer.Code == api.OK {
				came[a.Kind]++
			} else if told(answer) != told(api.Answer{Code: answer.Code}) || !mayChange(a) && told(k.w) != before {
				t.Fatalf("%+v: %+v, and the world is %+v, was %s", a, answer, k.w, before)
			}
			if told(k.w.Senders) != told(s.senders) {
				t.Fatalf("%+v: %+v; the senders are %+v, want %+v", a, answer, k.w.Senders, s.senders)
			}
		}
		if wrong := k.wrong(); wrong != "" {
			t.Fatalf("%s: %+v", wrong, k.acts)
		}
	}
	for kind := api.Init; kind <= api.Offsets; kind++ {
		if came[kind] < 20 {
			t.Errorf("%d acts of kind %d came: these walks tell too little", came[kind], kind)
		}
	}
}
