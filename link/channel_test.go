package link_test

import (
	"bytes"
	"math/rand"
	"testing"

	"lidar/api"
	"lidar/link"
)

func drop(at int) api.Fault    { return api.Fault{Kind: api.FaultDrop, At: at} }
func double(at int) api.Fault  { return api.Fault{Kind: api.FaultDouble, At: at} }
func move(at, n int) api.Fault { return api.Fault{Kind: api.FaultMove, At: at, N: n} }
func flip(at, n int) api.Fault { return api.Fault{Kind: api.FaultFlip, At: at, N: n} }
func cut(at, n int) api.Fault  { return api.Fault{Kind: api.FaultCut, At: at, N: n} }
func texts(l ...string) [][]byte {
	var list [][]byte
	for _, text := range l {
		list = append(list, []byte(text))
	}
	return list
}

func expectCarry(t *testing.T, in [][]byte, faults []api.Fault, want [][]byte) {
	t.Helper()
	before, beforeFaults := cloned(in), append([]api.Fault{}, faults...)
	got := link.Carry(in, faults)
	if !sameLists(got, want) {
		t.Errorf("Carry of %q with %v = %q, want %q", in, faults, got, want)
	}
	for i, datagram := range got {
		rest := cloned(got[i+1:])
		for j := range datagram {
			datagram[j] ^= 0xff
		}
		if !sameLists(got[i+1:], rest) {
			t.Errorf("two results of Carry with %v share memory", faults)
		}
	}
	if !sameLists(in, before) {
		t.Errorf("Carry with %v has changed its argument, or its result shares memory with it", faults)
	}
	for i := range faults {
		if faults[i] != beforeFaults[i] {
			t.Error("Carry has changed the faults")
		}
	}
}

// P2.4: one fault
func TestCarryOneFault(t *testing.T) {
	in := texts("ab", "c", "", "def")
	const most = 1<<63 - 1
	for _, c := range []struct {
		f    api.Fault
		want [][]byte
	}{
		{drop(0), texts("c", "", "def")},
		{drop(2), texts("ab", "c", "def")},
		{drop(3), texts("ab", "c", "")},
		{double(0), texts("ab", "ab", "c", "", "def")},
		{double(2), texts("ab", "c", "", "", "def")},
		{double(3), texts("ab", "c", "", "def", "def")},
		{move(0, 0), in},
		{move(0, 1), texts("c", "ab", "", "def")},
		{move(0, 3), texts("c", "", "def", "ab")},
		{move(0, 4), texts("c", "", "def", "ab")},
		{move(0, most), texts("c", "", "def", "ab")},
		{move(3, 2), texts("ab", "c", "def", "")},
		{move(3, 0), texts("def", "ab", "c", "")},
		{move(3, -1), texts("def", "ab", "c", "")},
		{move(1, -most-1), texts("c", "ab", "", "def")},
		{move(1, 2), texts("ab", "", "c", "def")},
		{flip(0, 0), texts("`b", "c", "", "def")},
		{flip(0, 1), texts("cb", "c", "", "def")},
		{flip(0, 7), texts("\xe1b", "c", "", "def")},
		{flip(0, 8), texts("ac", "c", "", "def")},
		{flip(0, 15), texts("a\xe2", "c", "", "def")},
		{flip(3, 18), texts("ab", "c", "", "deb")},
		{flip(0, 16), in},
		{flip(2, 0), in},
		{flip(0, -1), in},
		{flip(0, -8), in},
		{flip(0, most), in},
		{flip(0, -most-1), in},
		{cut(3, 3), in},
		{cut(3, 2), texts("ab", "c", "", "de")},
		{cut(3, 0), texts("ab", "c", "", "")},
		{cut(3, -1), texts("ab", "c", "", "")},
		{cut(3, -most-1), texts("ab", "c", "", "")},
		{cut(3, 4), in},
		{cut(2, 1), in},
		{cut(0, most), in},
		{api.Fault{Kind: 0}, in},
		{api.Fault{Kind: 6}, in},
		{api.Fault{Kind: -1}, in},
	} {
		expectCarry(t, in, []api.Fault{c.f}, c.want)
	}
}

// P2.4: an At that is no index of the list.
func TestCarryOutside(t *testing.T) {
	in := texts("ab", "c")
	for kind := -1; kind <= 6; kind++ {
		for _, at := range append([]int{2, 3}, outside...) {
			expectCarry(t, in, []api.Fault{{Kind: kind, At: at}}, in)
		}
		expectCarry(t, nil, []api.Fault{{Kind: kind}}, nil)
	}
	expectCarry(t, nil, nil, nil)
	expectCarry(t, in, nil, in)
}

// P2.4: each fault meets the list that the ones before have left.
func TestCarryInOrder(t *testing.T) {
	in := texts("ab", "c", "d")
	expectCarry(t, in, []api.Fault{double(0), flip(0, 0), flip(1, 9)}, texts("`b", "a`", "c", "d"))
	expectCarry(t, in, []api.Fault{drop(0), drop(0), drop(0), drop(0)}, nil)
	expectCarry(t, in, []api.Fault{drop(2), flip(2, 0), double(1), flip(2, 0)}, texts("ab", "c", "b"))
	expectCarry(t, in, []api.Fault{cut(0, 1), flip(0, 8), flip(0, 0)}, texts("`", "c", "d"))
	expectCarry(t, in, []api.Fault{cut(0, 1), cut(0, 2)}, texts("a", "c", "d"))
	expectCarry(t, in, []api.Fault{flip(1, 3), flip(1, 3)}, in)
	expectCarry(t, in, []api.Fault{move(0, 2), drop(0), cut(1, 1)}, texts("d", "a"))
	expectCarry(t, in, []api.Fault{move(0, 9), double(0), flip(3, 9), cut(2, 0), drop(1), drop(7), {Kind: 6}}, texts("c", "", "a`"))
}

// carried is Carry, as the chapter describes it.
func carried(in [][]byte, faults []api.Fault) [][]byte {
	list := cloned(in)
	for _, f := range faults {
		var next [][]byte
		for i, datagram := range list {
			if i != f.At {
				next = append(next, datagram)
				continue
			}
			switch f.Kind {
			case api.FaultDrop, api.FaultMove:
			case api.FaultDouble:
				next = append(next, datagram, bytes.Clone(datagram))
			case api.FaultFlip:
				for bit := range 8 * len(datagram) {
					if bit == f.N {
						datagram[bit/8] ^= 1 << (bit % 8)
					}
				}
				next = append(next, datagram)
			case api.FaultCut:
				for len(datagram) > 0 && len(datagram) > f.N {
					datagram = datagram[:len(datagram)-1]
				}
				next = append(next, datagram)
			default:
				next = append(next, datagram)
			}
		}
		if f.Kind == api.FaultMove && 0 <= f.At && f.At < len(list) {
			to := f.N
			for to < 0 {
				to++
			}
			for to >= len(list) {
				to--
			}
			next = joinedLists(next[:to:to], [][]byte{list[f.At]}, next[to:])
		}
		list = next
	}
	return list
}

func joinedLists(lists ...[][]byte) [][]byte {
	var all [][]byte
	for _, list := range lists {
		all = append(all, list...)
	}
	return all
}

func randomFaults(r *rand.Rand, most, datagrams, size int) []api.Fault {
	faults := make([]api.Fault, r.Intn(most+1))
	for i := range faults {
		faults[i] = api.Fault{Kind: r.Intn(7), At: r.Intn(datagrams+2) - 1, N: r.Intn(8*size+10) - 5}
		if faults[i].Kind == api.FaultMove {
			faults[i].N = r.Intn(datagrams+4) - 2
		}
		if faults[i].Kind == api.FaultCut {
			faults[i].N = r.Intn(size+4) - 2
		}
	}
	return faults
}

// P2.4
func TestCarryAtRandom(t *testing.T) {
	r := rand.New(rand.NewSource(1))
	for range 3000 {
		in := make([][]byte, r.Intn(6))
		for i := range in {
			in[i] = randomBytes(r, r.Intn(6))
		}
		faults := randomFaults(r, 8, len(in), 4)
		expectCarry(t, in, faults, carried(in, faults))
	}
}
