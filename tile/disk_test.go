package tile_test

import (
	"bytes"
	"math"
	"math/rand"
	"testing"

	"lidar/api"
	"lidar/tile"
)

// plainDisk is a disk as the chapter describes it, byte by byte.
type plainDisk struct {
	files [2][]plainByte
	down  bool
	armed int
}

type plainByte struct {
	value byte
	safe  bool
}

// operate is what Append, Sync and Clear have in common.
func (d *plainDisk) operate(file int, do func(list []plainByte) []plainByte) api.Errno {
	switch {
	case file != 0 && file != 1:
		return api.ErrArg
	case d.down:
		return api.ErrDown
	}
	if d.armed == 1 {
		d.down, d.armed = true, 0
		return api.ErrDown
	}
	d.armed = max(0, d.armed-1)
	d.files[file] = do(d.files[file])
	return api.OK
}

func (d *plainDisk) lose(keep [2]int) {
	for i, list := range d.files {
		var left []plainByte
		for _, b := range list {
			if !b.safe && keep[i] <= 0 {
				continue
			}
			if !b.safe {
				keep[i]--
			}
			left = append(left, plainByte{b.value, true})
		}
		d.files[i] = left
	}
	d.armed = 0
}

func (d *plainDisk) bytes(file int) []byte {
	var list []byte
	for _, b := range d.files[file] {
		list = append(list, b.value)
	}
	return list
}

// operations are all that can be done to a disk, and to its model; both return the same.
var operations = []func(r *rand.Rand, d *tile.Disk, p *plainDisk) (api.Errno, api.Errno){
	func(r *rand.Rand, d *tile.Disk, p *plainDisk) (api.Errno, api.Errno) {
		file, b := r.Intn(2), make([]byte, r.Intn(5))
		r.Read(b)
		return d.Append(file, b), p.operate(file, func(list []plainByte) []plainByte {
			for _, c := range b {
				list = append(list, plainByte{value: c})
			}
			return list
		})
	},
	func(r *rand.Rand, d *tile.Disk, p *plainDisk) (api.Errno, api.Errno) {
		file := r.Intn(2)
		return d.Sync(file), p.operate(file, func(list []plainByte) []plainByte {
			for i := range list {
				list[i].safe = true
			}
			return list
		})
	},
	func(r *rand.Rand, d *tile.Disk, p *plainDisk) (api.Errno, api.Errno) {
		file := r.Intn(2)
		if r.Intn(3) > 0 {
			return api.OK, api.OK
		}
		return d.Clear(file), p.operate(file, func([]plainByte) []plainByte { return nil })
	},
	func(r *rand.Rand, d *tile.Disk, p *plainDisk) (api.Errno, api.Errno) {
		file := []int{-1, 2, math.MinInt, math.MaxInt}[r.Intn(4)]
		_, err := d.Read(file)
		return max(d.Append(file, []byte{1}), d.Sync(file), d.Clear(file), err), api.ErrArg
	},
	func(r *rand.Rand, d *tile.Disk, p *plainDisk) (api.Errno, api.Errno) {
		n := []int{-1, 0, 1, 2, 5, 9, math.MinInt, math.MaxInt}[r.Intn(8)]
		d.Arm(n)
		p.armed = max(n, 0)
		return api.OK, api.OK
	},
	func(r *rand.Rand, d *tile.Disk, p *plainDisk) (api.Errno, api.Errno) {
		keep := [2]int{}
		for i := range keep {
			keep[i] = []int{-1, 0, 1, 2, 3, 8, math.MinInt, math.MaxInt}[r.Intn(8)]
		}
		if r.Intn(3) == 0 {
			d.Crash(keep)
			p.lose(keep)
			p.down = true
		}
		return api.OK, api.OK
	},
	func(r *rand.Rand, d *tile.Disk, p *plainDisk) (api.Errno, api.Errno) {
		d.Start()
		if p.down {
			p.lose([2]int{})
			p.down = false
		}
		return api.OK, api.OK
	},
}

func expectDisk(t *testing.T, d *tile.Disk, p *plainDisk) {
	t.Helper()
	if d.Down() != p.down {
		t.Fatalf("Down is %t", d.Down())
	}
	for file := range 2 {
		got, err := d.Read(file)
		if p.down && (err != api.ErrDown || len(got) != 0) {
			t.Fatalf("Read of a disk that is down: %v, error %d", got, err)
		}
		if want := p.bytes(file); !p.down && (err != api.OK || !bytes.Equal(got, want)) {
			t.Fatalf("Read of file %d: %v, error %d, not %v", file, got, err, want)
		}
		clear(got[:cap(got)])
	}
}

// P8.6, P8.7: disks and their forks, whatever is done to them.
func TestDiskAtRandom(t *testing.T) {
	r := rand.New(rand.NewSource(10))
	for range 3000 {
		d, p := tile.NewDisk(), &plainDisk{}
		expectDisk(t, d, p)
		for range 60 {
			if r.Intn(15) == 0 {
				old := d
				d = d.Fork()
				old.Clear(0)
				old.Append(1, []byte{77, 78})
				old.Sync(1)
				old.Crash([2]int{9, 9})
			}
			got, want := operations[r.Intn(len(operations))](r, d, p)
			if got != want {
				t.Fatalf("an operation returns %d, not %d", got, want)
			}
			expectDisk(t, d, p)
		}
	}
}

// P8.7: what is counted, and what is not.
func TestArm(t *testing.T) {
	d := tile.NewDisk()
	d.Arm(4)
	if d.Append(0, nil) != api.OK || d.Append(2, nil) != api.ErrArg || d.Sync(-1) != api.ErrArg || d.Clear(2) != api.ErrArg || d.Sync(0) != api.OK {
		t.Fatal("an operation fails too early")
	}
	if _, err := d.Read(0); err != api.OK || d.Clear(1) != api.OK || d.Down() {
		t.Fatal("an operation fails too early")
	}
	f := d.Fork()
	for _, x := range []*tile.Disk{d, f} {
		if x.Append(1, []byte{1}) != api.ErrDown || !x.Down() || x.Sync(1) != api.ErrDown {
			t.Fatal("the fourth operation does not fail")
		}
		x.Start()
		if b, err := x.Read(1); err != api.OK || len(b) != 0 || x.Append(1, []byte{1}) != api.OK {
			t.Fatal("the operation that failed has done something, or more is armed")
		}
		x.Arm(1)
		x.Arm(2)
		if x.Sync(0) != api.OK {
			t.Fatal("the first Arm is still there")
		}
		x.Start()
		if x.Sync(0) != api.ErrDown {
			t.Fatal("Start has an effect on a disk that is up")
		}
		x.Arm(1)
		x.Start()
		if x.Sync(0) != api.OK {
			t.Fatal("what was armed is still there after Start")
		}
		x.Arm(1)
		x.Crash([2]int{})
		x.Start()
		if x.Sync(0) != api.OK {
			t.Fatal("what was armed is still there after Crash")
		}
		x.Arm(1)
		x.Arm(0)
		if x.Sync(0) != api.OK {
			t.Fatal("what was armed is still there after Arm(0)")
		}
	}
}

// P8.7: a crash of a disk that is down already.
func TestCrashTwice(t *testing.T) {
	d := tile.NewDisk()
	d.Append(0, []byte{1, 2, 3})
	d.Append(1, []byte{4, 5})
	d.Arm(1)
	d.Sync(0)
	d.Crash([2]int{2, 1})
	d.Crash([2]int{1, 0})
	d.Start()
	for file, want := range [][]byte{{1, 2}, {4}} {
		if b, err := d.Read(file); err != api.OK || !bytes.Equal(b, want) {
			t.Errorf("file %d has %v, error %d, not %v", file, b, err, want)
		}
	}
}

// P8.6, P8.7, R7: no disk.
func TestNoDisk(t *testing.T) {
	for _, d := range []*tile.Disk{nil, {}} {
		d.Arm(1)
		d.Crash([2]int{})
		d.Start()
		for _, file := range []int{-1, 0, 1, 2} {
			b, err := d.Read(file)
			if d.Append(file, nil) != api.ErrArg || d.Sync(file) != api.ErrArg || d.Clear(file) != api.ErrArg || err != api.ErrArg || len(b) != 0 {
				t.Errorf("no disk has a file %d", file)
			}
		}
		if !d.Down() || d.Fork() != nil {
			t.Error("no disk is up, or has a fork")
		}
		if a, err := tile.Open(d, 4); a != nil || err != api.ErrArg {
			t.Errorf("Open of no disk: error %d", err)
		}
	}
}

// P8.6: the errors of a disk that is down.
func TestErrorsOfDownDisk(t *testing.T) {
	d := tile.NewDisk()
	d.Crash([2]int{})
	for _, file := range []int{-1, 0, 1, 2} {
		want := api.ErrDown
		if file < 0 || file > 1 {
			want = api.ErrArg
		}
		if _, err := d.Read(file); err != want || d.Append(file, nil) != want || d.Sync(file) != want || d.Clear(file) != want {
			t.Errorf("the file %d of a disk that is down: error %d, not %d", file, err, want)
		}
	}
}

// R4: what is appended is copied.
func TestDiskMemory(t *testing.T) {
	d := tile.NewDisk()
	b := []byte{1, 2, 3, 4}
	d.Append(0, b[:2])
	clear(b)
	got, _ := d.Read(0)
	if !bytes.Equal(got, []byte{1, 2}) {
		t.Errorf("the disk has %v", got)
	}
	f := d.Fork()
	f.Append(0, []byte{5})
	d.Append(0, []byte{6})
	got, _ = f.Read(0)
	if !bytes.Equal(got, []byte{1, 2, 5}) {
		t.Errorf("the fork has %v", got)
	}
}
