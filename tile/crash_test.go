package tile_test

import (
	"math"
	"math/rand"
	"slices"
	"testing"

	"lidar/api"
	"lidar/tile"
)

// act is a Forget, if below is above 0, or a Commit.
type act struct {
	add    []api.Point
	remove []int
	below  int
}

func (x act) on(a *tile.Archive) api.Errno {
	if x.below > 0 {
		return a.Forget(x.below)
	}
	_, err := a.Commit(x.add, x.remove)
	return err
}

// outcomes returns what may be there when the power is lost during the act; the last one is what it leads to.
func (x act) outcomes(p plainArchive) []plainArchive {
	if x.below == 0 {
		return []plainArchive{p, p.with(x.add, x.remove)}
	}
	var list []plainArchive
	for below := p.first; below <= x.below; below++ {
		list = append(list, p.from(below))
	}
	return list
}

func (x act) after(p plainArchive) plainArchive {
	list := x.outcomes(p)
	return list[len(list)-1]
}

// opened is an archive and its disk.
type opened struct {
	disk    *tile.Disk
	archive *tile.Archive
}

func openFork(t *testing.T, d *tile.Disk, c int) opened {
	t.Helper()
	f := d.Fork()
	return opened{f, open(t, f, c)}
}

// looseBytes returns how many bytes of each file of a disk that is down are loose.
func looseBytes(d *tile.Disk) [2]int {
	size := func(file, keep int) int {
		f := d.Fork()
		f.Crash([2]int{keep, keep})
		f.Start()
		b, _ := f.Read(file)
		return len(b)
	}
	return [2]int{size(0, math.MaxInt) - size(0, 0), size(1, math.MaxInt) - size(1, 0)}
}

// keeps returns what may be left of loose bytes, at most about some numbers for each file.
func keeps(loose [2]int, some int) [][2]int {
	numbers := func(n int) []int {
		if n == 0 {
			return []int{7}
		}
		list := []int{-1, n + 1}
		for keep := 0; keep <= n; keep += max(1, n/some) {
			list = append(list, keep)
		}
		return append(list, n)
	}
	var list [][2]int
	for _, first := range numbers(loose[0]) {
		for _, second := range numbers(loose[1]) {
			list = append(list, [2]int{first, second})
		}
	}
	return list
}

// loseAll loses the power at every operation of an act, and between it and the next one, and hands on each disk that may be found then, with what is on it.
func loseAll(t *testing.T, begin func() opened, before plainArchive, x act, some int, found func(d *tile.Disk, now plainArchive)) {
	t.Helper()
	for n, done := 1, false; !done; n++ {
		o := begin()
		o.disk.Arm(n)
		allowed := x.outcomes(before)
		switch err := x.on(o.archive); err {
		case api.OK:
			done = true
			expectArchive(t, o.archive, x.after(before))
			allowed = allowed[len(allowed)-1:]
		case api.ErrDown:
			expectArchive(t, o.archive, before)
			if err := x.on(o.archive); err != api.ErrDead {
				t.Fatalf("the next call returns the error %d", err)
			}
		default:
			t.Fatalf("%v returns the error %d", x, err)
		}
		for _, keep := range keeps(looseBytes(o.disk), some) {
			f := o.disk.Fork()
			f.Crash(keep)
			f.Start()
			now := stateOf(t, open(t, f, before.capacity), before.capacity)
			if !slices.ContainsFunc(allowed, now.equals) {
				t.Fatalf("after %v with the power lost at the operation %d and %v kept, the archive has %v, not one of %v", x, n, keep, now, allowed)
			}
			found(f, now)
		}
	}
}

// story are acts of all kinds: points that come, go and become others, nothing at all, and versions that are forgotten.
func story() []act {
	points := numbered(12)
	return []act{
		{add: points[:2]}, {add: []api.Point{classed(points[1], 9), points[2]}, remove: []int{1, 2}}, {}, {below: 1}, {add: points[3:]},
		{remove: []int{5, 9, 7}}, {below: 5}, {add: points[:1]}, {remove: []int{1, 2, 3, 4, 6, 8, 10, 11, 12}}, {below: 6}, {below: 7}, {add: points},
	}
}

// P8.15, P6: the power is lost at every operation of a story, with all that may be left of the loose bytes, and the archive goes on from there.
func TestEveryLossOfPower(t *testing.T) {
	before := newPlain(2)
	for i, x := range story() {
		begin := func() opened {
			o := openFork(t, tile.NewDisk(), 2)
			for _, done := range story()[:i] {
				done.on(o.archive)
			}
			return o
		}
		loseAll(t, begin, before, x, 1000, func(d *tile.Disk, now plainArchive) { goOn(t, d, now) })
		before = x.after(before)
	}
}

// goOn fails if the next commits, and a Forget between them, do not lead to what they should.
func goOn(t *testing.T, d *tile.Disk, now plainArchive) {
	t.Helper()
	for _, x := range []act{{add: []api.Point{point(50, 0, 0, 0)}}, {below: now.last()}, {remove: []int{50}}, {below: now.last() + 2}} {
		o := openFork(t, d, now.capacity)
		if err := x.on(o.archive); err != api.OK {
			t.Fatalf("%v returns the error %d", x, err)
		}
		now = x.after(now)
		expectArchive(t, o.archive, now)
		expectArchive(t, open(t, o.disk, now.capacity), now)
		d = o.disk
	}
}

// P8.15: the power is lost again and again.
func TestLossAfterLoss(t *testing.T) {
	before, d := newPlain(3), tile.NewDisk()
	again := act{add: []api.Point{point(60, 1, 1, 1), point(61, 1, 1, 1)}}
	for _, x := range story() {
		begin := func(d *tile.Disk) func() opened {
			return func() opened { return openFork(t, d, 3) }
		}
		loseAll(t, begin(d), before, x, 1000, func(d *tile.Disk, now plainArchive) {
			loseAll(t, begin(d), now, again, 9, func(d *tile.Disk, now plainArchive) { goOn(t, d, now) })
		})
		o := openFork(t, d, 3)
		x.on(o.archive)
		d, before = o.disk, x.after(before)
	}
}

// P8.15: a long life with many losses, of the same disk.
func TestManyLosses(t *testing.T) {
	r := rand.New(rand.NewSource(13))
	for range 40 {
		d, p := tile.NewDisk(), newPlain(4)
		a := open(t, d, 4)
		lost := 0
		for range 60 {
			x := act{}
			x.add, x.remove = randomChange(r, p.points(), 4)
			if r.Intn(6) == 0 {
				x = act{below: max(1, p.first+r.Intn(len(p.versions)))}
			}
			if x.below > p.last() {
				continue
			}
			d.Arm(r.Intn(9))
			err := x.on(a)
			if err == api.OK {
				p = x.after(p)
				continue
			}
			lost++
			expectArchive(t, a, p)
			d.Crash([2]int{r.Intn(200), r.Intn(200)})
			d.Start()
			a = open(t, d, 4)
			now := stateOf(t, a, 4)
			if err != api.ErrDown || !slices.ContainsFunc(x.outcomes(p), now.equals) {
				t.Fatalf("after %v, error %d, the archive has %v, not %v", x, err, now, p)
			}
			p = now
		}
		expectTiles(t, a, p)
		if lost < 5 {
			t.Errorf("only %d losses", lost)
		}
	}
}

// P8.7, P8.15: what is loose is gone after Start without Crash.
func TestStartWithoutCrash(t *testing.T) {
	for n := 1; ; n++ {
		d := tile.NewDisk()
		a, p := open(t, d, 4), newPlain(4)
		p = commit(t, a, p, numbered(2), nil)
		d.Arm(n)
		_, err := a.Commit(nil, []int{1})
		if err == api.OK {
			return
		}
		d.Start()
		now := stateOf(t, open(t, d, 4), 4)
		if !now.equals(p) && !now.equals(p.with(nil, []int{1})) {
			t.Fatalf("the archive has %v", now)
		}
		goOn(t, d, now)
	}
}

// P8.15: a crash during Open changes nothing.
func TestCrashOfOpen(t *testing.T) {
	for _, whole := range []bool{true, false} {
		d := tile.NewDisk()
		a, p := open(t, d, 4), newPlain(4)
		p = commit(t, a, p, numbered(3), nil)
		p = commit(t, a, p, nil, []int{2})
		if !whole {
			d.Arm(2)
			a.Commit(numbered(9)[5:], nil)
			d.Crash([2]int{5, 5})
			d.Start()
		}
		for n := range 5 {
			f := d.Fork()
			f.Arm(n)
			if a, err := tile.Open(f, 4); err != api.OK && (err != api.ErrDown || a != nil) {
				t.Fatalf("Open: error %d", err)
			}
			f.Crash([2]int{3, 3})
			f.Start()
			expectArchive(t, open(t, f, 4), p)
			goOn(t, f, p)
		}
	}
}

// P8.8: what was not committed leaves no capacity, what may have been committed leaves its own.
func TestCapacityAfterLoss(t *testing.T) {
	left := map[api.Errno]int{}
	for n := 1; n < 5; n++ {
		for keep := range 60 {
			d := tile.NewDisk()
			a := open(t, d, 4)
			d.Arm(n)
			a.Commit(numbered(2), nil)
			d.Crash([2]int{keep, keep})
			d.Start()
			version := open(t, d, 4).Version()
			b, err := tile.Open(d, 5)
			if want := []api.Errno{api.OK, api.ErrCap}[version]; err != want {
				t.Fatalf("Open with another capacity and the version %d: error %d", version, err)
			}
			left[err]++
			if err == api.OK {
				p := commit(t, b, newPlain(5), numbered(3), nil)
				expectTiles(t, open(t, d, 5), p)
			}
		}
	}
	if left[api.OK] == 0 || left[api.ErrCap] == 0 {
		t.Errorf("the outcomes are %v", left)
	}
}
