package compile

import (
	"slices"

	"interleave/api"
)

// leave removes the waiters of a goroutine from all channels.
func (s step) leave(g int) {
	isOwn := func(x api.Waiter) bool { return x.G == g }
	for _, o := range s.w.objects {
		o.Senders, o.Receivers = slices.DeleteFunc(o.Senders, isOwn), slices.DeleteFunc(o.Receivers, isOwn)
	}
}

// complete lets a goroutine continue behind an operation on a channel.
func (s step) complete(g, number int, v api.Value) {
	s.leave(g)
	s.answers[g] = answer{v, number}
}

func (s step) park(g int) { s.w.gs[g].parked = true }

// note for a channel: number is that of the value.
func (s step) noteChannel(g, kind int, c *api.Object, number int) {
	s.note(g, kind, c.ID, 0, number, c.Cap)
}

func otherThan(l []api.Waiter, g int) (api.Waiter, bool) {
	i := slices.IndexFunc(l, func(x api.Waiter) bool { return x.G != g })
	if i < 0 {
		return api.Waiter{}, false
	}
	return l[i], true
}

// send performs a send; number is that of the case of a select instruction.
func (s step) send(g, number int, to, v api.Value) {
	c, ok := s.w.channel(to)
	switch {
	case !ok:
		s.fail(g, api.FaultNil)
		return
	case c.Closed:
		s.fail(g, api.FaultClosed)
		return
	}
	k := c.Sent
	if r, found := otherThan(c.Receivers, g); found {
		c.Sent++
		c.Received++
		s.noteChannel(r.G, api.EvRecvStart, c, k)
		s.noteChannel(g, api.EvSendStart, c, k)
		s.noteChannel(r.G, api.EvRecvEnd, c, k)
		s.noteChannel(g, api.EvSendEnd, c, k)
		s.complete(r.G, r.Case, v)
		s.complete(g, number, api.Value{})
		return
	}
	if len(c.Queue) < c.Cap {
		c.Sent++
		c.Queue = append(c.Queue, v)
		s.noteChannel(g, api.EvSendStart, c, k)
		s.noteChannel(g, api.EvSendEnd, c, k)
		s.complete(g, number, api.Value{})
		return
	}
	c.Senders = append(c.Senders, api.Waiter{G: g, Case: number, Value: v})
	s.park(g)
}

// receive performs a receive.
func (s step) receive(g, number int, from api.Value) {
	c, ok := s.w.channel(from)
	if !ok {
		s.fail(g, api.FaultNil)
		return
	}
	k := c.Received
	if x, found := otherThan(c.Senders, g); found {
		s.receiveFrom(x, g, number, c)
		return
	}
	switch {
	case len(c.Queue) > 0:
		v := c.Queue[0]
		c.Queue = c.Queue[1:]
		c.Received++
		s.noteChannel(g, api.EvRecvStart, c, k)
		s.noteChannel(g, api.EvRecvEnd, c, k)
		s.complete(g, number, v)
	case c.Closed:
		s.noteChannel(g, api.EvRecvStart, c, k)
		s.noteChannel(g, api.EvRecvClosed, c, 0)
		s.complete(g, number, api.Value{})
	default:
		c.Receivers = append(c.Receivers, api.Waiter{G: g, Case: number})
		s.park(g)
	}
}

// receiveFrom performs a receive while a sender waits.
func (s step) receiveFrom(x api.Waiter, g, number int, c *api.Object) {
	v, k, sent := x.Value, c.Received, c.Sent
	c.Sent++
	c.Received++
	if c.Cap == 0 {
		s.noteChannel(x.G, api.EvSendStart, c, sent)
		s.noteChannel(g, api.EvRecvStart, c, k)
		s.noteChannel(g, api.EvRecvEnd, c, k)
	} else {
		v = c.Queue[0]
		c.Queue = append(slices.Clone(c.Queue[1:]), x.Value)
		s.noteChannel(g, api.EvRecvStart, c, k)
		s.noteChannel(g, api.EvRecvEnd, c, k)
		s.noteChannel(x.G, api.EvSendStart, c, sent)
	}
	s.noteChannel(x.G, api.EvSendEnd, c, sent)
	s.complete(x.G, x.Case, api.Value{})
	s.complete(g, number, v)
}

func (s step) close(g int, v api.Value) {
	c, ok := s.w.channel(v)
	switch {
	case !ok || c == nil:
		s.fail(g, api.FaultNil)
		return
	case c.Closed:
		s.fail(g, api.FaultClosed)
		return
	}
	c.Closed = true
	s.noteChannel(g, api.EvClose, c, 0)
	s.answers[g] = answer{}
	receivers, senders := c.Receivers, c.Senders
	c.Receivers, c.Senders = nil, nil
	for _, x := range receivers {
		if _, again := s.answers[x.G]; !again {
			s.noteChannel(x.G, api.EvRecvClosed, c, 0)
			s.complete(x.G, x.Case, api.Value{})
		}
	}
	for _, x := range senders {
		if _, again := s.answers[x.G]; !again {
			s.leave(x.G)
			s.fail(x.G, api.FaultClosed)
		}
	}
}

// choose performs the case of a select instruction with a number.
func (s step) choose(g, number int, r request) {
	for _, o := range r.cases {
		if _, ok := s.w.channel(o.channel); !ok {
			s.fail(g, api.FaultNil)
			return
		}
	}
	switch {
	case number < len(r.cases):
		s.communicate(g, number, r.cases[number])
	case r.hasDefault:
		s.answers[g] = answer{number: number}
	default:
		for i, o := range r.cases {
			if o.channel.Kind != api.VNil {
				s.communicate(g, i, o)
			}
		}
	}
}

func (s step) communicate(g, number int, o option) {
	if o.send {
		s.send(g, number, o.channel, o.value)
	} else {
		s.receive(g, number, o.channel)
	}
}
