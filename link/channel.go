package link

import (
	"bytes"
	"slices"

	"lidar/api"
)

// Carry returns the datagrams after the faults were applied to them in order.
func Carry(in [][]byte, faults []api.Fault) [][]byte {
	list := make([][]byte, len(in))
	for i, datagram := range in {
		list[i] = bytes.Clone(datagram)
	}
	for _, f := range faults {
		if 0 <= f.At && f.At < len(list) {
			list = damage(list, f)
		}
	}
	return list
}

// damage applies a fault whose At is an index of the list to the list, which it changes.
func damage(list [][]byte, f api.Fault) [][]byte {
	datagram := list[f.At]
	switch f.Kind {
	case api.FaultDrop:
		return slices.Delete(list, f.At, f.At+1)
	case api.FaultDouble:
		return slices.Insert(list, f.At+1, bytes.Clone(datagram))
	case api.FaultMove:
		list = slices.Delete(list, f.At, f.At+1)
		return slices.Insert(list, within(f.N, len(list)), datagram)
	case api.FaultFlip:
		if f.N >= 0 && f.N/8 < len(datagram) {
			datagram[f.N/8] ^= 1 << (f.N % 8)
		}
	case api.FaultCut:
		list[f.At] = datagram[:within(f.N, len(datagram))]
	}
	return list
}

// within returns the number from 0 to most that is nearest to n.
func within(n, most int) int {
	return max(0, min(n, most))
}

// Transfer sends bodies over a channel with faults and returns what is delivered, and how many rounds it took.
func Transfer(bodies [][]byte, window int, rounds [][]api.Fault) ([]api.Delivery, int, api.Errno) {
	if !validWindow(window) || !validBodies(bodies) {
		return nil, 0, api.ErrArg
	}
	s, _ := NewSender(0, window)
	r, _ := NewReceiver(0, window, 0)
	var delivered []api.Delivery
	offered, round := 0, 0
	for ; round < api.MaxRounds && r.Next() < len(bodies); round++ {
		offered += offer(s, bodies[offered:])
		datagrams := pack(s.Pending())
		if round < len(rounds) {
			datagrams = Carry(datagrams, rounds[round])
		}
		delivered = append(delivered, take(r, datagrams)...)
		// Faults may make frames that were never sent; the receiver is ahead of the sender then, and Ack has an error and no effect.
		s.Ack(r.Next())
	}
	return delivered, round, api.OK
}

func validBodies(bodies [][]byte) bool {
	for _, body := range bodies {
		if len(body) > api.MaxBody {
			return false
		}
	}
	return len(bodies) <= api.MaxBodies
}

// offer offers bodies until the sender is full, and returns how many it accepted.
func offer(s *Sender, bodies [][]byte) int {
	for i, body := range bodies {
		if _, err := s.Offer(body); err != api.OK {
			return i
		}
	}
	return len(bodies)
}

// pack returns a datagram for each frame.
func pack(frames []api.Frame) [][]byte {
	var datagrams [][]byte
	for _, f := range frames {
		b, _ := Pack(f)
		datagrams = append(datagrams, b)
	}
	return datagrams
}

// take gives the receiver the frames of all datagrams and returns what it delivers.
func take(r *Receiver, datagrams [][]byte) []api.Delivery {
	var delivered []api.Delivery
	for _, b := range datagrams {
		frames, _, _ := Scan(b)
		for _, f := range frames {
			now, _ := r.Take(f)
			delivered = append(delivered, now...)
		}
	}
	return delivered
}
