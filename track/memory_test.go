package track_test

import (
	"bytes"
	"math/rand"
	"slices"
	"testing"

	"lidar/api"
	"lidar/track"
)

// P4.3, P4.6, P4.7, R4: arguments stay as they are, and what lies behind their ends is not read.
func TestArgumentsStay(t *testing.T) {
	r := rand.New(rand.NewSource(1))
	for range 200 {
		all := append(randomFixes(r, 20), api.Fix{Time: -1}, api.Fix{})
		before := slices.Clone(all)
		fixes := all[:len(all)-2]
		kept, _, err := track.Clean(fixes, rules)
		if err != api.OK || !slices.Equal(all, before) {
			t.Fatalf("Clean, error %d, has made %v of %v", err, all, before)
		}
		kept = append(kept, api.Fix{})
		before = slices.Clone(kept)
		if _, err := track.Parts(kept[:len(kept)-1], rules); err != api.OK || !slices.Equal(kept, before) {
			t.Errorf("Parts, error %d, has made %v of %v", err, kept, before)
		}
		syncs := []api.Sync{{Scan: 9, Nav: r.Intn(20), Err: 1}, {Scan: 5, Nav: r.Intn(20), Err: 1}, {Scan: 7, Nav: 3}, {Scan: -1}}
		same := slices.Clone(syncs)
		if _, err := track.Clocks(syncs[:3]); err != api.OK || !slices.Equal(syncs, same) {
			t.Errorf("Clocks, error %d, has made %v of %v", err, syncs, same)
		}
		b := plainEncoding(api.Nav{Fix: randomFix(r)})
		bytesBefore := bytes.Clone(b)
		if _, err := track.Decode(b); err != api.OK || !bytes.Equal(b, bytesBefore) {
			t.Errorf("Decode, error %d, has made %x of %x", err, b, bytesBefore)
		}
	}
}

// P4.4, P4.8, R4: lists are read up to their length alone.
func TestListsEndWhereTheyEnd(t *testing.T) {
	clocks := []api.Clock{{Offset: api.Span{Lo: 1, Hi: 2}}, {From: 5, Offset: api.Span{Lo: 9, Hi: 9}}, {From: -1}}
	if got, err := track.NavTime(clocks[:1], 7); err != api.OK || got != (api.Span{Lo: 8, Hi: 9}) {
		t.Errorf("NavTime = %v, error %d", got, err)
	}
	parts := [][]api.Fix{fixesAt(1, 2, 3), fixesAt(4), fixesAt(0)}
	tr := api.Track{Parts: parts[:1]}
	tr.Parts[0] = tr.Parts[0][:2]
	if _, err := track.PoseAt(tr, rules, 2); err != api.OK {
		t.Errorf("PoseAt of 2: error %d", err)
	}
	for _, time := range []int{3, 4} {
		expectGap(t, tr, rules, time)
	}
}

// P4.6, P4.7, R4: results are new memory, also each part of a track.
func TestResultsAreNew(t *testing.T) {
	fixes := fixesAt(0, 1, 5000, 5001, 9000)
	before := slices.Clone(fixes)
	kept, _, _ := track.Clean(fixes, rules)
	tr := partsOf(t, rules, fixes...)
	clear(kept)
	if !slices.Equal(fixes, before) {
		t.Errorf("the fixes have become %v", fixes)
	}
	for i, part := range tr.Parts {
		clear(part[:cap(part)])
		if rest := slices.Concat(tr.Parts[i+1:]...); !slices.Equal(fixes, before) || !slices.Equal(rest, before[len(before)-len(rest):]) {
			t.Errorf("the fixes have become %v and %v", fixes, tr)
		}
	}
	if len(tr.Parts) != 3 {
		t.Errorf("there are %d parts", len(tr.Parts))
	}
	clocks, _ := track.Clocks([]api.Sync{met})
	clear(clocks)
	if again, err := track.Clocks([]api.Sync{met}); err != api.OK || again[0] != (api.Clock{From: 100, Offset: api.Span{Lo: 495, Hi: 505}}) {
		t.Errorf("Clocks = %v, error %d", again, err)
	}
}
