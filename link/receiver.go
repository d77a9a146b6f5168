package link

import (
	"bytes"

	"lidar/api"
)

// Receiver delivers each record of a stream once and in order.
type Receiver struct {
	stream, window int
	next           int                  // the first record that is not delivered
	held           map[int]api.Delivery // what was taken or given up: numbers above next and below next + window
}

// NewReceiver returns a receiver that has delivered all records below next.
func NewReceiver(stream, window, next int) (*Receiver, api.Errno) {
	if !validStream(stream) || !validWindow(window) || !validSeq(next) {
		return nil, api.ErrArg
	}
	return &Receiver{stream: stream, window: window, next: next, held: map[int]api.Delivery{}}, api.OK
}

// none reports whether r is nil or a zero value: every other receiver has a window.
func (r *Receiver) none() bool {
	return r == nil || r.window == 0
}

// Take takes a frame and returns what can be delivered now.
func (r *Receiver) Take(f api.Frame) ([]api.Delivery, api.Errno) {
	switch {
	case r.none():
		return nil, api.ErrArg
	case !validFrame(f):
		return nil, api.ErrFrame
	case f.Stream != r.stream:
		return nil, api.ErrStream
	}
	return r.hold(api.Delivery{Seq: f.Seq, Body: f.Body})
}

// GiveUp declares that a record will not come, and returns what can be delivered now.
func (r *Receiver) GiveUp(seq int) ([]api.Delivery, api.Errno) {
	if r.none() || !validSeq(seq) {
		return nil, api.ErrArg
	}
	return r.hold(api.Delivery{Seq: seq, Lost: true})
}

// hold keeps a copy of a delivery until its turn comes, and returns what can be delivered now.
func (r *Receiver) hold(d api.Delivery) ([]api.Delivery, api.Errno) {
	if d.Seq < r.next {
		return nil, api.ErrOld
	}
	if _, there := r.held[d.Seq]; there {
		return nil, api.ErrTwice
	}
	if d.Seq >= r.next+r.window {
		return nil, api.ErrFar
	}
	d.Body = bytes.Clone(d.Body)
	r.held[d.Seq] = d
	return r.deliver(), api.OK
}

func (r *Receiver) deliver() []api.Delivery {
	var out []api.Delivery
	for {
		d, there := r.held[r.next]
		if !there {
			return out
		}
		out = append(out, d)
		delete(r.held, r.next)
		r.next++
	}
}

// Next returns the number of the first record that is not delivered.
func (r *Receiver) Next() int {
	if r.none() {
		return 0
	}
	return r.next
}

// Missing returns the numbers below the greatest one that is held which are neither delivered nor held.
func (r *Receiver) Missing() []int {
	if r.none() {
		return nil
	}
	var missing []int
	left := len(r.held) // all of them are above next, so the loop meets each one
	for seq := r.next; left > 0; seq++ {
		if _, there := r.held[seq]; there {
			left--
		} else {
			missing = append(missing, seq)
		}
	}
	return missing
}

// Held returns how many records were taken or given up and are not delivered yet.
func (r *Receiver) Held() int {
	if r.none() {
		return 0
	}
	return len(r.held)
}

// Copy returns a receiver that is independent of r and behaves like it.
func (r *Receiver) Copy() *Receiver {
	if r.none() {
		return nil
	}
	c := *r
	c.held = make(map[int]api.Delivery, len(r.held))
	for seq, d := range r.held {
		d.Body = bytes.Clone(d.Body)
		c.held[seq] = d
	}
	return &c
}
