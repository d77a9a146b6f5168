package link_test

import (
	"math/rand"
	"testing"

	"lidar/api"
	"lidar/link"
)

func expectTransfer(t *testing.T, bodies [][]byte, window int, rounds [][]api.Fault, want []api.Delivery, wantRounds int) {
	t.Helper()
	before := cloned(bodies)
	got, n, err := link.Transfer(bodies, window, rounds)
	if err != api.OK || n != wantRounds || !sameDeliveries(got, want) {
		t.Errorf("Transfer of %d bodies with window %d = %v, %d, error %d, want %v, %d", len(bodies), window, got, n, err, want, wantRounds)
	}
	for _, d := range got {
		clear(d.Body)
	}
	if !sameLists(bodies, before) {
		t.Error("Transfer has changed its argument, or its result shares memory with it")
	}
}

// deliveries returns the deliveries of the first n bodies.
func deliveries(bodies [][]byte, n int) []api.Delivery {
	var list []api.Delivery
	for seq, body := range bodies[:n] {
		list = append(list, api.Delivery{Seq: seq, Body: append([]byte{}, body...)})
	}
	return list
}

// numbered returns n different bodies.
func numbered(n int) [][]byte {
	bodies := make([][]byte, n)
	for i := range bodies {
		bodies[i] = []byte{byte(i), byte(i >> 8), 5}
	}
	return bodies
}

// P2.12: no faults
func TestTransfer(t *testing.T) {
	expectTransfer(t, nil, 1, nil, nil, 0)
	expectTransfer(t, [][]byte{}, api.MaxWindow, [][]api.Fault{{drop(0)}}, nil, 0)
	expectTransfer(t, [][]byte{nil}, 1, nil, []api.Delivery{{}}, 1)
	for _, c := range []struct{ bodies, window, rounds int }{{3, 2, 2}, {3, 3, 1}, {3, 64, 1}, {3, 1, 3}, {64, 64, 1}, {65, 64, 2}, {256, 64, 4}, {64, 1, 64}, {256, 4, 64}} {
		bodies := numbered(c.bodies)
		expectTransfer(t, bodies, c.window, nil, deliveries(bodies, c.bodies), c.rounds)
		expectTransfer(t, bodies, c.window, make([][]api.Fault, 100), deliveries(bodies, c.bodies), c.rounds)
	}
	long := [][]byte{make([]byte, api.MaxBody), {}, make([]byte, api.MaxBody)}
	expectTransfer(t, long, 2, nil, deliveries(long, 3), 2)
}

// P2.12: the rounds end at MaxRounds.
func TestTransferThatDoesNotEnd(t *testing.T) {
	bodies := numbered(65)
	expectTransfer(t, bodies, 1, nil, deliveries(bodies, 64), 64)
	always := make([][]api.Fault, 100)
	for i := range always {
		always[i] = []api.Fault{drop(0)}
	}
	expectTransfer(t, bodies, 1, always, nil, 64)
	expectTransfer(t, bodies, 2, always, nil, 64) // the record 1 is held, and the record 0 never comes
	expectTransfer(t, bodies[:1], 5, always[:63], deliveries(bodies, 1), 64)
	expectTransfer(t, bodies[:1], 5, always[:64], nil, 64)
	bodies = numbered(256)
	expectTransfer(t, bodies, 4, nil, deliveries(bodies, 256), 64)
	expectTransfer(t, bodies, 4, [][]api.Fault{nil, {drop(0), drop(0), drop(0), drop(0)}}, deliveries(bodies, 252), 64)
}

// P2.12
func TestTransferErrors(t *testing.T) {
	long := [][]byte{{1}, make([]byte, api.MaxBody+1)}
	type test struct {
		bodies [][]byte
		window int
	}
	cases := []test{{nil, 0}, {nil, 65}, {numbered(257), 64}, {long, 1}, {long, 0}}
	for _, n := range outside {
		cases = append(cases, test{numbered(3), n})
	}
	for _, c := range cases {
		if got, n, err := link.Transfer(c.bodies, c.window, nil); err != api.ErrArg || n != 0 || len(got) != 0 {
			t.Errorf("Transfer of %d bodies with window %d = %v, %d, error %d", len(c.bodies), c.window, got, n, err)
		}
	}
}

// P2.12: single faults, with the rounds that they cost.
func TestTransferWithFaults(t *testing.T) {
	bodies := numbered(4)
	all := deliveries(bodies, 4)
	for _, c := range []struct {
		window int
		faults [][]api.Fault
		rounds int
	}{
		{2, [][]api.Fault{{drop(0)}}, 3},
		{2, [][]api.Fault{{drop(1)}}, 3},
		{2, [][]api.Fault{{drop(2)}}, 2},
		{2, [][]api.Fault{{}, {}, {drop(0)}}, 2},
		{2, [][]api.Fault{{move(0, 1)}, {move(1, 0)}}, 2},
		{2, [][]api.Fault{{double(0), double(2)}, {double(1)}}, 2},
		{2, [][]api.Fault{{flip(0, 0)}}, 3},
		{2, [][]api.Fault{{flip(1, 70)}}, 3},
		{2, [][]api.Fault{{cut(0, 14)}}, 3},
		{2, [][]api.Fault{{cut(0, 15)}}, 2},
		{2, [][]api.Fault{{drop(0)}, {drop(0)}}, 4},
		{2, [][]api.Fault{{drop(0)}, {drop(1)}}, 3}, // the records 0 and 1 are sent again, of which 1 is held
		{3, [][]api.Fault{{drop(1)}, {drop(0)}}, 3},
		{3, [][]api.Fault{{drop(1)}, {drop(1)}}, 2}, // the records 1, 2 and 3 are sent then, of which 2 is held
		{3, [][]api.Fault{{drop(1)}, {drop(2)}}, 3},
		{3, [][]api.Fault{{drop(1)}, {drop(3)}}, 2},
		{4, [][]api.Fault{{move(3, 0), move(3, 1)}}, 1},
	} {
		expectTransfer(t, bodies, c.window, c.faults, all, c.rounds)
	}
}

// becoming returns the faults that turn the datagram a, with the index at, into b, which is not longer.
func becoming(at int, a, b []byte) []api.Fault {
	var faults []api.Fault
	for i := range b {
		for bit := range 8 {
			if (a[i]^b[i])>>bit&1 == 1 {
				faults = append(faults, flip(at, 8*i+bit))
			}
		}
	}
	return append(faults, cut(at, len(b)))
}

// P2.12: faults may make frames that were never sent. They are taken as what they are; frames of other streams, and Acks of what was never offered, have no effect.
func TestTransferOfForgedFrames(t *testing.T) {
	x, y, z := []byte{'x'}, []byte{'y'}, []byte{'z'}
	body := joined(encoding(api.Frame{Seq: 0, Body: x}), encoding(api.Frame{Stream: 1, Seq: 1, Body: z}), encoding(api.Frame{Seq: 1, Body: y}))
	hidden := [][]api.Fault{{flip(0, 0)}} // without its mark the frame is none, and those in its body are found
	forged := []api.Delivery{{Seq: 0, Body: x}, {Seq: 1, Body: y}}
	expectTransfer(t, [][]byte{body}, 1, hidden, forged, 1)
	expectTransfer(t, [][]byte{body, y}, 1, hidden, forged, 1)
	expectTransfer(t, [][]byte{body, x, z}, 1, hidden, forged, 64)
	expectTransfer(t, [][]byte{body, x, z}, 2, hidden, append(forged, api.Delivery{Seq: 2, Body: z}), 2)
	expectTransfer(t, [][]byte{body, x, z}, 2, append(hidden, []api.Fault{drop(0)}), append(forged, api.Delivery{Seq: 2, Body: z}), 3)

	other := [][]byte{[]byte("abc"), []byte("def")}
	sent := encoding(api.Frame{Seq: 0, Body: other[0]})
	late := [][]api.Fault{becoming(0, sent, encoding(api.Frame{Seq: 1, Body: y}))}
	expectTransfer(t, other, 2, late, []api.Delivery{{Seq: 0, Body: other[0]}, {Seq: 1, Body: y}}, 2)
	stranger := [][]api.Fault{becoming(0, sent, encoding(api.Frame{Stream: 2, Seq: 0, Body: y}))}
	expectTransfer(t, other, 2, stranger, deliveries(other, 2), 2)
}

// transferred is Transfer, as the chapter describes it, for frames that are not forged.
func transferred(bodies [][]byte, window int, rounds [][]api.Fault) (delivered, done int) {
	arrived := map[int]bool{}
	for done < api.MaxRounds && delivered < len(bodies) {
		var datagrams [][]byte
		for seq := delivered; seq < min(delivered+window, len(bodies)); seq++ {
			datagrams = append(datagrams, encoding(api.Frame{Seq: seq, Body: bodies[seq]}))
		}
		if done < len(rounds) {
			datagrams = carried(datagrams, rounds[done])
		}
		for _, b := range datagrams {
			frames, _, _ := scanned(b)
			for _, f := range frames {
				arrived[f.Seq] = true
			}
		}
		for arrived[delivered] {
			delivered++
		}
		done++
	}
	return delivered, done
}

// P2.12, P2.15, P2: faults of all kinds.
func TestTransferAtRandom(t *testing.T) {
	r := rand.New(rand.NewSource(1))
	for range 300 {
		bodies := make([][]byte, r.Intn(40))
		for i := range bodies {
			bodies[i] = randomBytes(r, r.Intn(12))
		}
		window := 1 + r.Intn(8)
		rounds := make([][]api.Fault, r.Intn(70))
		for i := range rounds {
			rounds[i] = randomFaults(r, 12, window, 16)
		}
		delivered, done := transferred(bodies, window, rounds)
		expectTransfer(t, bodies, window, rounds, deliveries(bodies, delivered), done)
	}
}

// P2.15: as many rounds without faults as the bodies need are enough, wherever they are among the first MaxRounds.
func TestTransferWithEnoughRounds(t *testing.T) {
	r := rand.New(rand.NewSource(2))
	for range 60 {
		window := 1 + r.Intn(api.MaxWindow)
		bodies := numbered(1 + r.Intn(min(api.MaxBodies, api.MaxRounds*window)))
		need := (len(bodies) + window - 1) / window
		clean := map[int]bool{}
		for _, i := range r.Perm(api.MaxRounds)[:need] {
			clean[i] = true
		}
		rounds := make([][]api.Fault, api.MaxRounds)
		for i := range rounds {
			if !clean[i] {
				rounds[i] = randomFaults(r, 100, window, 16)
			}
		}
		got, _, err := link.Transfer(bodies, window, rounds)
		if err != api.OK || !sameDeliveries(got, deliveries(bodies, len(bodies))) {
			t.Errorf("%d bodies with window %d and %d rounds without faults: %d are delivered, error %d", len(bodies), window, need, len(got), err)
		}
	}
}
