package plant_test

import (
	"math"
	"math/rand"
	"slices"
	"testing"

	"lidar/api"
	"lidar/mesh"
	"lidar/model"
	"lidar/plant"
	"lidar/tile"
)

func tie(t *testing.T, p *plant.Plant, m api.Match) {
	t.Helper()
	if err := p.Tie(m); err != api.OK {
		t.Fatalf("Tie of %v: error %d", m, err)
	}
}

func correct(t *testing.T, p *plant.Plant, e api.Edit) {
	t.Helper()
	if err := p.Correct(e); err != api.OK {
		t.Fatalf("Correct with %v: error %d", e, err)
	}
}

func breakAt(t *testing.T, p *plant.Plant, a, b int) {
	t.Helper()
	if err := p.Break(a, b); err != api.OK {
		t.Fatalf("Break of %d and %d: error %d", a, b, err)
	}
}

// P10.12: errors in their order, with and without room for more.
func TestTie(t *testing.T) {
	p, _ := newPlant(t, config(2))
	bad := []api.Match{
		{}, lift(2, 0), lift(-1, 0), {A: 1, B: 1, Normal: [3]int{1, 0, 0}, W: 1}, {A: 0, B: 2, Normal: [3]int{1, 0, 0}, W: 1}, {A: 0, B: -2, Normal: [3]int{1, 0, 0}, W: 1},
		{A: 0, B: 1, W: 1}, {A: 0, B: 1, Normal: [3]int{101, 0, 0}, W: 1}, {A: 0, B: 1, Normal: [3]int{1, 0, 0}}, {A: 0, B: 1, Normal: [3]int{1, 0, 0}, W: 1001},
		lift(0, 1<<38+1), lift(0, -1<<38-1),
	}
	try := func(want api.Errno) {
		t.Helper()
		for _, m := range bad {
			if err := p.Tie(m); err != want {
				t.Errorf("Tie of %v: error %d, not %d", m, err, want)
			}
		}
	}
	try(api.ErrProblem)
	tie(t, p, api.Match{A: 1, B: 0, Normal: [3]int{-100, 100, 0}, D: 1 << 38, W: 1000})
	for range 63 {
		tie(t, p, lift(1, -1<<38))
	}
	try(api.ErrArg)
	if err := p.Tie(lift(0, 0)); err != api.ErrArg {
		t.Errorf("a match too many: error %d", err)
	}
}

// P10.12: errors in their order, with and without room for more.
func TestCorrect(t *testing.T) {
	p, _ := newPlant(t, config(2))
	bad := []api.Edit{
		{To: 3}, {To: -1}, {To: 8}, {Ring: round(2)}, {Ring: round(65)}, {Ring: round(3), From: -2}, {Ring: round(3), From: 4}, {Ring: round(3), To: 255},
		{Ring: []api.XY{{}, {X: 1}, {X: limit + 1}}}, {Ring: round(2), From: 4, To: 4},
	}
	try := func(want api.Errno) {
		t.Helper()
		for _, e := range bad {
			if err := p.Correct(e); err != want {
				t.Errorf("Correct with %v: error %d, not %d", e, err, want)
			}
		}
	}
	try(api.ErrEdit)
	for _, e := range []api.Edit{{Id: -5, From: 77}, {Id: 1 << 62, To: api.Noise}, {Ring: round(3), From: -1, To: api.Roof}, {Ring: round(64), From: api.Plant}} {
		correct(t, p, e)
	}
	for range 60 {
		correct(t, p, api.Edit{})
	}
	try(api.ErrArg)
	if err := p.Correct(api.Edit{}); err != api.ErrArg {
		t.Errorf("an edit too many: error %d", err)
	}
}

// P10.12
func TestBreak(t *testing.T) {
	p, _ := newPlant(t, config(2))
	for _, c := range [][2]int{{-1, 3}, {3, -1}, {3, api.MaxId + 1}, {math.MaxInt, 3}, {math.MinInt, 3}, {3, 3}, {0, 0}, {-1, -1}} {
		if err := p.Break(c[0], c[1]); err != api.ErrArg {
			t.Errorf("Break of %v: error %d", c, err)
		}
	}
	breakAt(t, p, 0, api.MaxId)
	breakAt(t, p, api.MaxId, 0)
	for range 62 {
		breakAt(t, p, 5, 6)
	}
	if err := p.Break(5, 6); err != api.ErrArg {
		t.Errorf("a breakline too many: error %d", err)
	}
}

// P10.12, R3: what is refused has no effect, also in the next version.
func TestRefused(t *testing.T) {
	p, _ := newPlant(t, config(1))
	supply(t, p, 0, single())
	publish(t, p, 1)
	p.Tie(lift(1, 5))
	p.Correct(api.Edit{Id: 1, To: 3})
	p.Break(1, 1)
	publish(t, p, 1)
	tie(t, p, lift(0, 5))
	correct(t, p, api.Edit{Id: 1, To: api.Noise})
	publish(t, p, 2)
	expect(t, "the points", pointsOf(t, p, 2), survey(t, []api.Strip{single()}, []api.Match{lift(0, 5)}, []api.Edit{{Id: 1, To: api.Noise}}, config(1)))
}

// P10.13, P10.18, P5: after each Publish the newest version is the survey of all that is there, and there is a new one if it differs.
func TestPublish(t *testing.T) {
	r := rand.New(rand.NewSource(61))
	for range 25 {
		c := config(2)
		p, _ := newPlant(t, c)
		strips, next := []api.Strip{flight(r, 12), flight(r, 12)}, [4][]api.Frame{}
		for i, s := range strips {
			for j := range s.Pulses {
				s.Pulses[j].Seq = j
			}
			for _, f := range frames(i, s) {
				next[f.Stream] = append(next[f.Stream], f)
			}
		}
		var matches []api.Match
		var edits []api.Edit
		var before []api.Point
		version := 0
		for range 20 {
			switch r.Intn(6) {
			case 0:
				m := lift(r.Intn(2), r.Intn(500))
				tie(t, p, m)
				matches = append(matches, m)
			case 1:
				for _, e := range randomEdits(r, before) {
					correct(t, p, e)
					edits = append(edits, e)
				}
			case 2, 3, 4:
				i := r.Intn(4)
				n := r.Intn(len(next[i]) + 1)
				feed(t, p, packed(next[i][:n]...))
				next[i] = next[i][n:]
			}
			now := survey(t, p.Strips(), matches, edits, c)
			if !same(now, before) {
				version++
			}
			publish(t, p, version)
			expect(t, "the points", pointsOf(t, p, version), now)
			before = now
		}
	}
}

// P10.13: points that are gone when a fix comes that contradicts another one make a version too.
func TestPublishLess(t *testing.T) {
	p, _ := newPlant(t, config(1))
	s := single()
	supply(t, p, 0, s)
	publish(t, p, 1)
	twice := fixAt(1000)
	twice.Fix.Pos[1]++
	s.Navs = append(s.Navs, twice)
	feed(t, p, packed(frames(0, s)...))
	publish(t, p, 2)
	expect(t, "the points", pointsOf(t, p, 2), []api.Point(nil))
}

// P10.13: errors in their order, which leave the version; publishing twice makes one version.
func TestPublishErrors(t *testing.T) {
	p, d := newPlant(t, config(2))
	s := crowded()
	supply(t, p, 0, s[0])
	supply(t, p, 1, api.Strip{Pulses: s[1].Pulses[1:251], Navs: s[1].Navs})
	publish(t, p, 1)
	publish(t, p, 1)
	correct(t, p, api.Edit{Id: 1, To: api.Noise})
	d.Crash([2]int{})
	expectError(t, p, api.ErrDown)
	expectError(t, p, api.ErrDead)
	many := pulseAt(251, 500, echoes(slices.Repeat([]int{1}, 14)...))
	feed(t, p, packed(frames(1, api.Strip{Pulses: []api.Numbered{many}})...))
	expectError(t, p, api.ErrCount)
}

// P10.13, P10.14: the archive stays dead until it is opened anew.
func TestDeadArchive(t *testing.T) {
	p, d := newPlant(t, config(1))
	supply(t, p, 0, single())
	d.Arm(1)
	expectError(t, p, api.ErrDown)
	expectError(t, p, api.ErrDead)
	d.Crash([2]int{})
	d.Start()
	expectError(t, p, api.ErrDead)
	if err := p.Reopen(); err != api.OK {
		t.Errorf("Reopen: error %d", err)
	}
	publish(t, p, 1)
}

// expectError fails if Publish does not return an error and nothing else, or if it changes the version.
func expectError(t *testing.T, p *plant.Plant, want api.Errno) {
	t.Helper()
	version := p.Version()
	points := pointsOf(t, p, version)
	if v, err := p.Publish(); v != 0 || err != want {
		t.Fatalf("Publish: version %d, error %d, not %d", v, err, want)
	}
	if p.Version() != version {
		t.Fatalf("the version is %d, not %d", p.Version(), version)
	}
	expect(t, "the points", pointsOf(t, p, version), points)
}

// P10.13: with nothing to commit a plant does not need its disk.
func TestPublishNothing(t *testing.T) {
	p, d := newPlant(t, config(1))
	d.Crash([2]int{})
	publish(t, p, 0)
	if err := p.Reopen(); err != api.ErrDown {
		t.Errorf("Reopen: error %d", err)
	}
	publish(t, p, 0)
}

// P10.14: after a Reopen with an error the archive is dead until one returns OK; all else stays.
func TestReopen(t *testing.T) {
	c := config(1)
	c.Cap = 7
	p, d := newPlant(t, c)
	supply(t, p, 0, single())
	publish(t, p, 1)
	tie(t, p, lift(0, 5))
	d.Crash([2]int{})
	for range 2 {
		if err := p.Reopen(); err != api.ErrDown {
			t.Fatalf("Reopen: error %d", err)
		}
	}
	d.Start()
	expectError(t, p, api.ErrDead)
	points := pointsOf(t, p, 1)
	if err := p.Reopen(); err != api.OK {
		t.Fatalf("Reopen: error %d", err)
	}
	expect(t, "the points", pointsOf(t, p, 1), points)
	expect(t, "the strips", p.Strips(), []api.Strip{single()})
	correct(t, p, api.Edit{Id: 1, To: api.Plant})
	publish(t, p, 2)
	expect(t, "the points", pointsOf(t, p, 2), survey(t, []api.Strip{single()}, []api.Match{lift(0, 5)}, []api.Edit{{Id: 1, To: api.Plant}}, c))
	if in := feed(t, p, packed(frames(0, single())...)); in.Taken != 0 {
		t.Errorf("records are taken again: %v", in)
	}
}

// P10.14: the versions that others have made, and a disk that others use with another capacity.
func TestReopenOthers(t *testing.T) {
	p, d := newPlant(t, config(1))
	supply(t, p, 0, single())
	a, _ := tile.Open(d, 4)
	a.Commit([]api.Point{point(7, 0, 0, 0, api.Roof)}, nil)
	expect(t, "the version", p.Version(), 0)
	expect(t, "the error of Reopen", p.Reopen(), api.OK)
	expect(t, "the version", p.Version(), 1)
	expect(t, "the points", idsOf(pointsOf(t, p, 1)), []int{7})
	publish(t, p, 2)
	expect(t, "the points", pointsOf(t, p, 2), survey(t, p.Strips(), nil, nil, config(1)))
	q, d := newPlant(t, config(1))
	b, _ := tile.Open(d, 5)
	b.Commit([]api.Point{point(7, 0, 0, 0, api.Roof)}, nil)
	expect(t, "the error of Reopen", q.Reopen(), api.ErrCap)
	publish(t, q, 0)
	supply(t, q, 0, single())
	expectError(t, q, api.ErrDead)
}

// served is a plant with versions of ground that differ, and its breaklines.
func served(t *testing.T, r *rand.Rand) (*plant.Plant, [][2]int) {
	t.Helper()
	p, _ := newPlant(t, config(2))
	supply(t, p, 0, flight(r, 40))
	publish(t, p, 1)
	ground := slices.DeleteFunc(pointsOf(t, p, 1), func(p api.Point) bool { return p.Class != api.Ground })
	var breaks [][2]int
	for range 30 {
		a, b := ground[r.Intn(len(ground))].Id, ground[r.Intn(len(ground))].Id
		if a != b {
			breakAt(t, p, a, b)
			breaks = append(breaks, [2]int{a, b})
		}
	}
	supply(t, p, 1, flight(r, 20))
	publish(t, p, 2)
	tie(t, p, lift(0, 500))
	publish(t, p, 3)
	for _, id := range idsOf(ground)[:5] {
		correct(t, p, api.Edit{Id: id, To: api.Noise})
	}
	publish(t, p, 4)
	tie(t, p, lift(0, 500))
	publish(t, p, 4)
	return p, breaks
}

// P10.14, P10.15, P10.22: points, orders and changes are those of the archive, and a delivery brings what was selected.
func TestOrders(t *testing.T) {
	r := rand.New(rand.NewSource(62))
	p, _ := served(t, r)
	var tiles [][]api.Tile
	for version := range 5 {
		tiles = append(tiles, layout(t, pointsOf(t, p, version), 4))
	}
	for range 200 {
		from, to, o := r.Intn(5), r.Intn(5), randomOrder(r)
		b, err := p.Order(from, o)
		want := plainSelect(tiles[from], o)
		if err != api.OK || !slices.Equal(receive(t, b), want) || !slices.Equal(b, ship(t, want)) {
			t.Fatalf("Order of %v of the version %d: %v, error %d, not %v", o, from, b, err, want)
		}
		keys, err := p.Changes(from, to)
		wantKeys, _ := tile.Changed(tiles[from], tiles[to])
		if err != api.OK || !slices.Equal(keys, wantKeys) {
			t.Fatalf("Changes from %d to %d: %v, error %d, not %v", from, to, keys, err, wantKeys)
		}
	}
}

// P10.15
func TestProfile(t *testing.T) {
	r := rand.New(rand.NewSource(63))
	p, breaks := served(t, r)
	inside := 0
	for version := range 5 {
		m := plainRelief(pointsOf(t, p, version), breaks)
		if version > 0 && (len(m.Lines) < 5 || len(m.T) < 20) {
			t.Fatalf("the relief of the version %d has %d lines", version, len(m.Lines))
		}
		for range 20 {
			from, to := api.XY{X: r.Intn(8000) - 2000, Y: r.Intn(4000) - 2000}, api.XY{X: r.Intn(8000) - 2000, Y: r.Intn(4000) - 2000}
			stops, err := p.Profile(version, from, to)
			want, _ := mesh.Profile(m, from, to)
			expect(t, "the error of Profile", err, api.OK)
			expect(t, "the stops", stops, want)
			for _, s := range stops {
				if s.In {
					inside++
				}
			}
		}
	}
	if inside < 100 {
		t.Errorf("only %d stops are inside", inside)
	}
}

// P10.15, P10.21, P8: changes between versions, and none between a version and itself.
func TestChange(t *testing.T) {
	r := rand.New(rand.NewSource(64))
	p, breaks := served(t, r)
	regions := 0
	for range 60 {
		from, to, limit, few := r.Intn(5), r.Intn(5), []int{100, 1500, 1 << 30}[r.Intn(3)], 1+r.Intn(3)
		f := api.Raster{X0: r.Intn(900) - 300, Y0: -1500 + r.Intn(900), Step: 100 + r.Intn(300), NX: 1 + r.Intn(16), NY: 1 + r.Intn(16)}
		got, err := p.Change(from, to, f, limit, few)
		a, _ := model.Render(plainRelief(pointsOf(t, p, from), breaks), f, limit)
		b, _ := model.Render(plainRelief(pointsOf(t, p, to), breaks), f, limit)
		want, _ := model.Regions(a, b, few)
		expect(t, "the error of Change", err, api.OK)
		expect(t, "the regions", got, want)
		if from == to && len(got) > 0 {
			t.Fatalf("a version differs from itself: %v", got)
		}
		regions += len(got)
	}
	if regions < 10 {
		t.Errorf("there are only %d regions", regions)
	}
}

// P10.21: versions with the same points, which other versions lie between.
func TestNoChange(t *testing.T) {
	p, _ := newPlant(t, config(1))
	supply(t, p, 0, flight(rand.New(rand.NewSource(67)), 40))
	publish(t, p, 1)
	first := pointsOf(t, p, 1)
	correct(t, p, api.Edit{Id: first[0].Id, To: api.Noise})
	publish(t, p, 2)
	correct(t, p, api.Edit{Id: first[0].Id, To: first[0].Class})
	publish(t, p, 3)
	expect(t, "the points", pointsOf(t, p, 3), first)
	regions, err := p.Change(1, 3, api.Raster{X0: -500, Y0: -1000, Step: 100, NX: 40, NY: 20}, 1<<30, 1)
	if err != api.OK || len(regions) > 0 {
		t.Errorf("Change: %v, error %d", regions, err)
	}
	if keys, err := p.Changes(1, 3); err != api.OK || len(keys) > 0 {
		t.Errorf("Changes: %v, error %d", keys, err)
	}
}

// P10.14, P10.15: errors in their order.
func TestServeErrors(t *testing.T) {
	p, _ := newPlant(t, config(1))
	supply(t, p, 0, flight(rand.New(rand.NewSource(68)), 10))
	publish(t, p, 1)
	good := api.Raster{Step: 1, NX: 2, NY: 2}
	a, b, far := api.XY{}, api.XY{X: 1}, api.XY{X: limit + 1}
	for _, version := range []int{-1, 2, math.MaxInt, math.MinInt} {
		points, err := p.Points(version)
		expect(t, "Points", []any{len(points), err}, []any{0, api.ErrVersion})
		for _, o := range badOrders() {
			out, err := p.Order(version, o)
			expect(t, "Order", []any{len(out), err}, []any{0, api.ErrOrder})
		}
		out, err := p.Order(version, api.Order{Every: 1})
		expect(t, "Order", []any{len(out), err}, []any{0, api.ErrVersion})
		for _, to := range []api.XY{a, b, far} {
			stops, err := p.Profile(version, a, to)
			expect(t, "Profile", []any{len(stops), err}, []any{0, api.ErrVersion})
		}
		for _, pair := range [][2]int{{version, 1}, {1, version}, {version, version}} {
			keys, err := p.Changes(pair[0], pair[1])
			expect(t, "Changes", []any{len(keys), err}, []any{0, api.ErrVersion})
			for _, f := range []api.Raster{good, {}} {
				regions, err := p.Change(pair[0], pair[1], f, -1, 0)
				expect(t, "Change", []any{len(regions), err}, []any{0, api.ErrVersion})
			}
		}
	}
	for _, c := range []struct {
		from, to api.XY
		want     api.Errno
	}{{a, far, api.ErrPlace}, {far, far, api.ErrPlace}, {b, b, api.ErrArg}} {
		stops, err := p.Profile(1, c.from, c.to)
		expect(t, "Profile", []any{len(stops), err}, []any{0, c.want})
	}
	for _, c := range []struct {
		f          api.Raster
		limit, few int
		want       api.Errno
	}{{api.Raster{}, 5, 1, api.ErrGrid}, {api.Raster{}, -1, 0, api.ErrGrid}, {good, -1, 1, api.ErrArg}, {good, 1<<30 + 1, 1, api.ErrArg}, {good, 5, 0, api.ErrArg}, {good, 0, 1, api.OK}} {
		regions, err := p.Change(0, 1, c.f, c.limit, c.few)
		expect(t, "Change", []any{len(regions), err}, []any{0, c.want})
	}
}
