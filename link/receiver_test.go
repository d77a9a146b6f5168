package link_test

import (
	"math/rand"
	"testing"

	"lidar/api"
	"lidar/link"
)

func record(seq int) api.Delivery {
	return api.Delivery{Seq: seq, Body: []byte{byte(seq), 77}}
}

func lost(seq int) api.Delivery {
	return api.Delivery{Seq: seq, Lost: true}
}

func frameOf(stream int, d api.Delivery) api.Frame {
	return api.Frame{Stream: stream, Seq: d.Seq, Body: d.Body}
}

func expectTake(t *testing.T, r *link.Receiver, f api.Frame, wantErr api.Errno, want ...api.Delivery) {
	t.Helper()
	if got, err := r.Take(f); err != wantErr || !sameDeliveries(got, want) {
		t.Errorf("Take of stream %d, Seq %d = %v, error %d, want %v, error %d", f.Stream, f.Seq, got, err, want, wantErr)
	}
}

func expectGiveUp(t *testing.T, r *link.Receiver, seq int, wantErr api.Errno, want ...api.Delivery) {
	t.Helper()
	if got, err := r.GiveUp(seq); err != wantErr || !sameDeliveries(got, want) {
		t.Errorf("GiveUp(%d) = %v, error %d, want %v, error %d", seq, got, err, want, wantErr)
	}
}

func expectState(t *testing.T, r *link.Receiver, next, held int, missing ...int) {
	t.Helper()
	if r.Next() != next || r.Held() != held || !sameInts(r.Missing(), missing) {
		t.Errorf("Next %d, Held %d, Missing %v, want %d, %d, %v", r.Next(), r.Held(), r.Missing(), next, held, missing)
	}
}

// P2.8
func TestNewReceiver(t *testing.T) {
	for _, next := range []int{0, 1, 5, 1 << 31, api.MaxSeq} {
		r := newReceiver(t, 3, 2, next)
		expectState(t, r, next, 0)
		expectTake(t, r, frameOf(3, record(next)), api.OK, record(next))
		if next > 0 {
			expectTake(t, r, frameOf(3, record(next-1)), api.ErrOld)
		}
	}
	for _, next := range append([]int{api.MaxSeq + 1}, outside...) {
		if r, err := link.NewReceiver(3, 2, next); err != api.ErrArg || r != nil {
			t.Errorf("NewReceiver with next %d returns %v, error %d", next, r, err)
		}
	}
}

// P2.9 to P2.11: the example
func TestReceiverExample(t *testing.T) {
	r := newReceiver(t, 0, 3, 0)
	expectTake(t, r, frameOf(0, record(1)), api.OK)
	expectState(t, r, 0, 1, 0)
	expectTake(t, r, frameOf(0, record(0)), api.OK, record(0), record(1))
	expectTake(t, r, frameOf(0, record(1)), api.ErrOld)
	expectTake(t, r, frameOf(0, record(5)), api.ErrFar)
	expectGiveUp(t, r, 2, api.OK, lost(2))
	expectState(t, r, 3, 0)
}

// P2.9
func TestTakeErrors(t *testing.T) {
	r := newReceiver(t, 4, 3, 10)
	expectTake(t, r, frameOf(4, record(11)), api.OK)
	for _, f := range []api.Frame{{Stream: 256, Seq: 10}, {Stream: -1, Seq: 10}, {Stream: 4, Seq: -1}, {Stream: 4, Seq: api.MaxSeq + 1}, {Stream: 5, Seq: -1}, {Stream: 4, Seq: 10, Body: make([]byte, api.MaxBody+1)}, {Stream: 5, Seq: 11, Body: make([]byte, api.MaxBody+1)}} {
		expectTake(t, r, f, api.ErrFrame)
	}
	for _, seq := range []int{0, 9, 10, 11, 13, api.MaxSeq} {
		expectTake(t, r, frameOf(5, record(seq)), api.ErrStream)
	}
	for _, seq := range []int{0, 1, 9} {
		expectTake(t, r, frameOf(4, record(seq)), api.ErrOld)
		expectGiveUp(t, r, seq, api.ErrOld)
	}
	expectTake(t, r, frameOf(4, record(11)), api.ErrTwice)
	expectGiveUp(t, r, 11, api.ErrTwice)
	for _, seq := range []int{13, 14, 1 << 20, api.MaxSeq} {
		expectTake(t, r, frameOf(4, record(seq)), api.ErrFar)
		expectGiveUp(t, r, seq, api.ErrFar)
	}
	for _, seq := range append([]int{api.MaxSeq + 1}, outside...) {
		expectGiveUp(t, r, seq, api.ErrArg)
	}
	expectState(t, r, 10, 1, 10)
	expectTake(t, r, frameOf(4, record(12)), api.OK)
	expectState(t, r, 10, 2, 10)
	expectTake(t, r, api.Frame{Stream: 4, Seq: 10, Body: make([]byte, api.MaxBody)}, api.OK, api.Delivery{Seq: 10, Body: make([]byte, api.MaxBody)}, record(11), record(12))
	expectState(t, r, 13, 0)
}

// P2.10: records that are given up count as taken.
func TestGiveUp(t *testing.T) {
	r := newReceiver(t, 0, 4, 0)
	expectGiveUp(t, r, 2, api.OK)
	expectState(t, r, 0, 1, 0, 1)
	expectGiveUp(t, r, 2, api.ErrTwice)
	expectTake(t, r, frameOf(0, record(2)), api.ErrTwice)
	expectTake(t, r, frameOf(0, record(1)), api.OK)
	expectGiveUp(t, r, 0, api.OK, lost(0), record(1), lost(2))
	expectState(t, r, 3, 0)
	expectGiveUp(t, r, 0, api.ErrOld)
	expectTake(t, r, frameOf(0, record(2)), api.ErrOld)
}

// P2.8 to P2.10: the end of the numbers.
func TestReceiverAtMaxSeq(t *testing.T) {
	r := newReceiver(t, 0, api.MaxWindow, api.MaxSeq-1)
	expectTake(t, r, frameOf(0, record(api.MaxSeq)), api.OK)
	expectGiveUp(t, r, api.MaxSeq+1, api.ErrArg)
	expectTake(t, r, frameOf(0, record(api.MaxSeq+1)), api.ErrFrame)
	expectGiveUp(t, r, api.MaxSeq-1, api.OK, lost(api.MaxSeq-1), record(api.MaxSeq))
	expectState(t, r, api.MaxSeq+1, 0)
	expectTake(t, r, frameOf(0, record(api.MaxSeq)), api.ErrOld)
	expectGiveUp(t, r, api.MaxSeq, api.ErrOld)
	expectGiveUp(t, r, api.MaxSeq+1, api.ErrArg)
}

// P2.11
func TestMissing(t *testing.T) {
	r := newReceiver(t, 0, api.MaxWindow, 100)
	expectState(t, r, 100, 0)
	for _, seq := range []int{108, 103, 163, 105} {
		expectTake(t, r, frameOf(0, record(seq)), api.OK)
	}
	expectGiveUp(t, r, 104, api.OK)
	want := []int{100, 101, 102, 106, 107}
	for seq := 109; seq < 163; seq++ {
		want = append(want, seq)
	}
	expectState(t, r, 100, 5, want...)
	for seq := 100; seq < 102; seq++ {
		expectTake(t, r, frameOf(0, record(seq)), api.OK, record(seq))
	}
	expectTake(t, r, frameOf(0, record(102)), api.OK, record(102), record(103), lost(104), record(105))
	expectState(t, r, 106, 2, want[3:]...)
	list := r.Missing()
	clear(list)
	expectState(t, r, 106, 2, want[3:]...)
}

// P2.11
func TestCopy(t *testing.T) {
	r := newReceiver(t, 6, 4, 20)
	expectTake(t, r, frameOf(6, record(21)), api.OK)
	expectGiveUp(t, r, 23, api.OK)
	c := r.Copy()
	expectState(t, c, 20, 2, 20, 22)
	got, err := r.Take(frameOf(6, record(20)))
	if err != api.OK || !sameDeliveries(got, []api.Delivery{record(20), record(21)}) {
		t.Errorf("Take = %v, error %d", got, err)
	}
	clear(got[0].Body)
	clear(got[1].Body)
	expectState(t, c, 20, 2, 20, 22)
	expectTake(t, c, frameOf(5, record(20)), api.ErrStream)
	expectTake(t, c, frameOf(6, record(21)), api.ErrTwice)
	expectTake(t, c, frameOf(6, record(24)), api.ErrFar)
	expectTake(t, c, frameOf(6, record(22)), api.OK)
	expectTake(t, c, frameOf(6, record(20)), api.OK, record(20), record(21), record(22), lost(23))
	expectState(t, r, 22, 1, 22)
	expectState(t, c, 24, 0)
}

// P2.9, R4: a receiver keeps copies, and deliveries are new memory.
func TestReceiverMemory(t *testing.T) {
	r := newReceiver(t, 0, 3, 0)
	f, g := frameOf(0, record(1)), frameOf(0, record(0))
	expectTake(t, r, f, api.OK)
	clear(f.Body)
	got, _ := r.Take(g)
	clear(g.Body)
	if !sameDeliveries(got, []api.Delivery{record(0), record(1)}) {
		t.Errorf("deliveries %v share memory with frames", got)
	}
}

// P2.8 to P2.11, R7
func TestNoReceiver(t *testing.T) {
	for _, r := range []*link.Receiver{nil, {}} {
		expectTake(t, r, api.Frame{}, api.ErrArg)
		expectTake(t, r, api.Frame{Stream: -1}, api.ErrArg)
		expectTake(t, r, api.Frame{Stream: 1}, api.ErrArg)
		for _, seq := range append([]int{0, 1}, outside...) {
			expectGiveUp(t, r, seq, api.ErrArg)
		}
		expectState(t, r, 0, 0)
		if r.Copy() != nil {
			t.Error("no receiver has a copy")
		}
	}
}

// model is a receiver as the chapter describes it: all that was accepted, by its number.
type model struct {
	stream, window, next int
	accepted             map[int]api.Delivery
}

func (m *model) errorOf(seq int) api.Errno {
	_, there := m.accepted[seq]
	switch {
	case seq < m.next:
		return api.ErrOld
	case there:
		return api.ErrTwice
	case seq >= m.next+m.window:
		return api.ErrFar
	}
	return api.OK
}

func (m *model) accept(d api.Delivery) ([]api.Delivery, api.Errno) {
	if err := m.errorOf(d.Seq); err != api.OK {
		return nil, err
	}
	m.accepted[d.Seq] = d
	var out []api.Delivery
	for d, there := m.accepted[m.next]; there; d, there = m.accepted[m.next] {
		out = append(out, d)
		m.next++
	}
	return out, api.OK
}

func (m *model) missing() (missing []int, held int) {
	for seq, gap := m.next, []int(nil); seq < m.next+m.window; seq++ {
		if _, there := m.accepted[seq]; there {
			missing, gap = append(missing, gap...), nil
			held++
		} else {
			gap = append(gap, seq)
		}
	}
	return missing, held
}

// P2.8 to P2.11, P2.14, P2: receivers and their copies that take and give up whatever comes.
func TestReceiverAtRandom(t *testing.T) {
	random := rand.New(rand.NewSource(1))
	for round := range 200 {
		stream, window, start := random.Intn(256), 1+random.Intn(api.MaxWindow), random.Intn(3)*(api.MaxSeq/2-20)
		if round%3 == 0 {
			window = 1 + random.Intn(4)
		}
		r := newReceiver(t, stream, window, start)
		m := &model{stream: stream, window: window, next: start, accepted: map[int]api.Delivery{}}
		var all []api.Delivery
		for range 150 {
			seq := m.next - 3 + random.Intn(window+6)
			d := api.Delivery{Seq: max(0, min(seq, api.MaxSeq)), Body: randomBytes(random, random.Intn(4))}
			if random.Intn(5) == 0 {
				d = lost(d.Seq)
			}
			now := step(t, r, m, d)
			all = append(all, now...)
			missing, held := m.missing()
			expectState(t, r, m.next, held, missing...)
			if t.Failed() {
				return
			}
			if random.Intn(10) == 0 {
				r = r.Copy()
			}
		}
		for i, d := range all {
			if first := m.accepted[start+i]; !sameDeliveries([]api.Delivery{d}, []api.Delivery{first}) {
				t.Errorf("delivery %d is %v, want %v", i, d, first)
			}
		}
	}
}

// step gives a receiver and its model a record, or gives it up, and returns what the receiver delivers.
func step(t *testing.T, r *link.Receiver, m *model, d api.Delivery) []api.Delivery {
	t.Helper()
	want, wantErr := m.accept(d)
	var got []api.Delivery
	var err api.Errno
	if d.Lost {
		got, err = r.GiveUp(d.Seq)
	} else {
		got, err = r.Take(frameOf(m.stream, d))
	}
	if err != wantErr || !sameDeliveries(got, want) {
		t.Errorf("record %v: %v, error %d, want %v, error %d", d, got, err, want, wantErr)
	}
	return got
}
