package link

import (
	"bytes"

	"lidar/api"
)

// Sender numbers the records of a stream and keeps those that are pending.
type Sender struct {
	stream, window int
	first, next    int // the records from first to next - 1 are pending
	pending        map[int][]byte
}

// NewSender returns a sender whose next record has the number 0.
func NewSender(stream, window int) (*Sender, api.Errno) {
	if !validStream(stream) || !validWindow(window) {
		return nil, api.ErrArg
	}
	return &Sender{stream: stream, window: window, pending: map[int][]byte{}}, api.OK
}

// none reports whether s is nil or a zero value: every other sender has a window.
func (s *Sender) none() bool {
	return s == nil || s.window == 0
}

// Offer gives a record the next number and returns its frame.
func (s *Sender) Offer(body []byte) (api.Frame, api.Errno) {
	if s.none() || len(body) > api.MaxBody {
		return api.Frame{}, api.ErrArg
	}
	if len(s.pending) >= s.window || !validSeq(s.next) {
		return api.Frame{}, api.ErrFull
	}
	seq := s.next
	s.pending[seq] = bytes.Clone(body)
	s.next++
	return s.frame(seq), api.OK
}

// Ack states that all records below next have arrived.
func (s *Sender) Ack(next int) api.Errno {
	if s.none() || next < s.first || next > s.next {
		return api.ErrArg
	}
	for ; s.first < next; s.first++ {
		delete(s.pending, s.first)
	}
	return api.OK
}

// Pending returns the frames of the pending records in ascending order.
func (s *Sender) Pending() []api.Frame {
	if s.none() {
		return nil
	}
	var frames []api.Frame
	for seq := s.first; seq < s.next; seq++ {
		frames = append(frames, s.frame(seq))
	}
	return frames
}

// Again returns the frames of the numbers that are pending, in the order of seqs.
func (s *Sender) Again(seqs []int) []api.Frame {
	if s.none() {
		return nil
	}
	var frames []api.Frame
	for _, seq := range seqs {
		if _, ok := s.pending[seq]; ok {
			frames = append(frames, s.frame(seq))
		}
	}
	return frames
}

// frame returns the frame of a pending record.
func (s *Sender) frame(seq int) api.Frame {
	return api.Frame{Stream: s.stream, Seq: seq, Body: bytes.Clone(s.pending[seq])}
}
