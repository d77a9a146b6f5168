package link_test

import (
	"bytes"
	"math/rand"
	"reflect"
	"testing"
	"unsafe"

	"lidar/api"
	"lidar/link"
)

// P2.6, P2.8: what streams and windows there are.
func TestStreamsAndWindows(t *testing.T) {
	for _, stream := range append([]int{0, 1, 254, 255, 256, 257}, outside...) {
		for _, window := range append([]int{0, 1, 2, 63, 64, 65}, outside...) {
			want := api.ErrArg
			if 0 <= stream && stream <= 255 && 1 <= window && window <= 64 {
				want = api.OK
			}
			if s, err := link.NewSender(stream, window); err != want || (s != nil) != (err == api.OK) {
				t.Errorf("NewSender(%d, %d) returns %v, error %d", stream, window, s, err)
			}
			if r, err := link.NewReceiver(stream, window, 0); err != want || (r != nil) != (err == api.OK) {
				t.Errorf("NewReceiver(%d, %d, 0) returns %v, error %d", stream, window, r, err)
			}
		}
	}
}

func expectOffer(t *testing.T, s *link.Sender, body []byte, want api.Frame) {
	t.Helper()
	if f, err := s.Offer(body); err != api.OK || !sameFrame(f, want) {
		t.Errorf("Offer of %x = %v, error %d, want %v", body, f, err, want)
	}
}

func expectNoOffer(t *testing.T, s *link.Sender, body []byte, want api.Errno) {
	t.Helper()
	if f, err := s.Offer(body); err != want || !sameFrame(f, api.Frame{}) {
		t.Errorf("Offer of %d bytes = %v, error %d, want error %d", len(body), f, err, want)
	}
}

func expectPending(t *testing.T, s *link.Sender, want ...api.Frame) {
	t.Helper()
	if got := s.Pending(); !sameFrames(got, want) {
		t.Errorf("Pending = %v, want %v", got, want)
	}
}

func expectAck(t *testing.T, s *link.Sender, next int, want api.Errno) {
	t.Helper()
	if err := s.Ack(next); err != want {
		t.Errorf("Ack(%d) returns %d, want %d", next, err, want)
	}
}

// P2.6
func TestOffer(t *testing.T) {
	s := newSender(t, 200, 3)
	long := bytes.Repeat([]byte{5}, api.MaxBody)
	first, second, third := api.Frame{Stream: 200, Body: []byte{1}}, api.Frame{Stream: 200, Seq: 1}, api.Frame{Stream: 200, Seq: 2, Body: long}
	expectPending(t, s)
	expectOffer(t, s, []byte{1}, first)
	expectNoOffer(t, s, make([]byte, api.MaxBody+1), api.ErrArg)
	expectPending(t, s, first)
	expectOffer(t, s, nil, second)
	expectOffer(t, s, long, third)
	expectNoOffer(t, s, nil, api.ErrFull)
	expectNoOffer(t, s, make([]byte, api.MaxBody+1), api.ErrArg)
	expectPending(t, s, first, second, third)
	expectAck(t, s, 1, api.OK)
	expectOffer(t, s, []byte{4}, api.Frame{Stream: 200, Seq: 3, Body: []byte{4}})
	expectNoOffer(t, s, nil, api.ErrFull)
}

// P2.6: a sender with the greatest window takes as many records.
func TestOfferGreatestWindow(t *testing.T) {
	s := newSender(t, 0, api.MaxWindow)
	for n := range api.MaxWindow {
		expectOffer(t, s, []byte{byte(n)}, api.Frame{Seq: n, Body: []byte{byte(n)}})
	}
	expectNoOffer(t, s, nil, api.ErrFull)
}

// P2.6: a sender gives no number above MaxSeq. As it takes 2^32 records to come there, the test sets the numbers itself, by the names of the fields.
func TestOfferUpToMaxSeq(t *testing.T) {
	s := newSender(t, 1, 5)
	for _, name := range []string{"first", "next"} {
		field := reflect.ValueOf(s).Elem().FieldByName(name)
		if !field.IsValid() || field.Kind() != reflect.Int {
			t.Skipf("a sender has no field %s", name)
		}
		*(*int)(unsafe.Pointer(field.UnsafeAddr())) = api.MaxSeq - 1
	}
	expectOffer(t, s, []byte{1}, api.Frame{Stream: 1, Seq: api.MaxSeq - 1, Body: []byte{1}})
	expectOffer(t, s, []byte{2}, api.Frame{Stream: 1, Seq: api.MaxSeq, Body: []byte{2}})
	expectNoOffer(t, s, []byte{3}, api.ErrFull)
	expectAck(t, s, api.MaxSeq+1, api.OK)
	expectPending(t, s)
	expectNoOffer(t, s, []byte{3}, api.ErrFull)
}

// P2.7
func TestAck(t *testing.T) {
	s := newSender(t, 7, 4)
	frame := func(seq int) api.Frame {
		return api.Frame{Stream: 7, Seq: seq, Body: []byte{byte(seq)}}
	}
	expectAck(t, s, 0, api.OK)
	expectAck(t, s, 1, api.ErrArg)
	for seq := range 4 {
		expectOffer(t, s, []byte{byte(seq)}, frame(seq))
	}
	for _, n := range append([]int{5}, outside...) {
		expectAck(t, s, n, api.ErrArg)
	}
	expectPending(t, s, frame(0), frame(1), frame(2), frame(3))
	expectAck(t, s, 2, api.OK)
	expectPending(t, s, frame(2), frame(3))
	expectAck(t, s, 2, api.OK)
	for _, n := range append([]int{0, 1, 5}, outside...) {
		expectAck(t, s, n, api.ErrArg)
	}
	expectPending(t, s, frame(2), frame(3))
	expectAck(t, s, 4, api.OK)
	expectPending(t, s)
	expectAck(t, s, 3, api.ErrArg)
	expectOffer(t, s, []byte{4}, frame(4))
	expectPending(t, s, frame(4))
}

func expectAgain(t *testing.T, s *link.Sender, seqs []int, want ...api.Frame) {
	t.Helper()
	before := append([]int{}, seqs...)
	if got := s.Again(seqs); !sameFrames(got, want) {
		t.Errorf("Again of %v = %v, want %v", seqs, got, want)
	}
	if !sameInts(seqs, before) {
		t.Error("Again has changed its argument")
	}
}

// P2.7
func TestAgain(t *testing.T) {
	s := newSender(t, 7, 4)
	expectAgain(t, s, []int{0, 1})
	for seq := range 4 {
		s.Offer([]byte{byte(seq)})
	}
	s.Ack(1)
	one, two, three := api.Frame{Stream: 7, Seq: 1, Body: []byte{1}}, api.Frame{Stream: 7, Seq: 2, Body: []byte{2}}, api.Frame{Stream: 7, Seq: 3, Body: []byte{3}}
	expectAgain(t, s, nil)
	expectAgain(t, s, []int{1, 2, 3}, one, two, three)
	expectAgain(t, s, []int{3, 0, 2, 4, 3, 1, 3}, three, two, three, one, three)
	expectAgain(t, s, append(outside, 0, 4))
	expectPending(t, s, one, two, three)
}

// P2.6, P2.7, R4: a sender keeps copies, and its frames are new memory.
func TestSenderMemory(t *testing.T) {
	s := newSender(t, 0, 2)
	body := []byte{1, 2, 3}
	want := api.Frame{Body: []byte{1, 2, 3}}
	f, _ := s.Offer(body)
	clear(body)
	if !sameFrame(f, want) {
		t.Error("the frame of Offer shares memory with its argument")
	}
	clear(f.Body)
	expectPending(t, s, want)
	clear(s.Pending()[0].Body)
	expectPending(t, s, want)
	twice := s.Again([]int{0, 0})
	clear(twice[0].Body)
	if !sameFrame(twice[1], want) {
		t.Error("two frames of Again share memory")
	}
	expectPending(t, s, want)
}

// P2.6, P2.7, R7
func TestNoSender(t *testing.T) {
	for _, s := range []*link.Sender{nil, {}} {
		expectNoOffer(t, s, nil, api.ErrArg)
		expectNoOffer(t, s, []byte{1}, api.ErrArg)
		expectNoOffer(t, s, make([]byte, api.MaxBody+1), api.ErrArg)
		for _, n := range append([]int{0, 1}, outside...) {
			expectAck(t, s, n, api.ErrArg)
		}
		expectPending(t, s)
		expectAgain(t, s, []int{0, 1})
	}
}

// P2.6, P2.7: a sender against a list of all its records.
func TestSenderAtRandom(t *testing.T) {
	r := rand.New(rand.NewSource(1))
	for window := 1; window <= api.MaxWindow; window += 1 + r.Intn(9) {
		s := newSender(t, window, window)
		var all []api.Frame
		first := 0
		for range 400 {
			if r.Intn(3) > 0 {
				f := api.Frame{Stream: window, Seq: len(all), Body: randomBytes(r, r.Intn(5))}
				if len(all)-first == window {
					expectNoOffer(t, s, f.Body, api.ErrFull)
				} else {
					expectOffer(t, s, f.Body, f)
					all = append(all, f)
				}
			} else if n := first - 2 + r.Intn(len(all)-first+5); n < first || n > len(all) {
				expectAck(t, s, n, api.ErrArg)
			} else {
				expectAck(t, s, n, api.OK)
				first = n
			}
			expectPending(t, s, all[first:]...)
		}
	}
}
