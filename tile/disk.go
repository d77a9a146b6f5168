package tile

import (
	"bytes"

	"lidar/api"
)

// Disk has two files of bytes, and may lose power at any operation.
type Disk struct {
	power
	files []content // two; none in a zero value
}

// content is what a file contains. What lies behind its first safe bytes is loose.
type content struct {
	bytes []byte
	safe  int
}

// lose takes the loose bytes away, but for the first keep ones, which are safe then.
func (c *content) lose(keep int) {
	loose := len(c.bytes) - c.safe
	c.safe += max(0, min(keep, loose))
	c.bytes = c.bytes[:c.safe]
}

// power says whether a disk is up, and for how long.
type power struct {
	down  bool
	armed int // the operation at which the power is lost, counted from 1 for the next one; 0 if nothing is armed
}

// lasts reports whether there is power for one more operation, which it counts.
func (p *power) lasts() bool {
	if p.armed > 0 {
		p.armed--
		p.down = p.armed == 0
	}
	return !p.down
}

// turn switches the power on or off. Nothing is armed any more.
func (p *power) turn(down bool) {
	*p = power{down: down}
}

// NewDisk returns a disk that is up, with two empty files.
func NewDisk() *Disk {
	return &Disk{files: make([]content, 2)}
}

// none reports whether d is nil or a zero value.
func (d *Disk) none() bool {
	return d == nil || d.files == nil
}

func (d *Disk) check(file int) api.Errno {
	switch {
	case d.none() || file < 0 || file >= len(d.files):
		return api.ErrArg
	case d.down:
		return api.ErrDown
	}
	return api.OK
}

// operate changes a file if the power lasts.
func (d *Disk) operate(file int, change func(c *content)) api.Errno {
	if err := d.check(file); err != api.OK {
		return err
	}
	if !d.lasts() {
		return api.ErrDown
	}
	change(&d.files[file])
	return api.OK
}

// Append puts b behind the end of a file, loose.
func (d *Disk) Append(file int, b []byte) api.Errno {
	return d.operate(file, func(c *content) { c.bytes = append(c.bytes, b...) })
}

// Sync makes all bytes of a file safe.
func (d *Disk) Sync(file int) api.Errno {
	return d.operate(file, func(c *content) { c.safe = len(c.bytes) })
}

// Clear makes a file empty, which is safe at once.
func (d *Disk) Clear(file int) api.Errno {
	return d.operate(file, func(c *content) { *c = content{} })
}

// Read returns all bytes of a file.
func (d *Disk) Read(file int) ([]byte, api.Errno) {
	if err := d.check(file); err != api.OK {
		return nil, err
	}
	return bytes.Clone(d.files[file].bytes), api.OK
}

// Arm lets the power be lost at the n-th operation from now on.
func (d *Disk) Arm(n int) {
	if !d.none() {
		d.armed = max(0, n)
	}
}

// Crash lets the power be lost now. The first keep bytes of the loose ones of each file remain.
func (d *Disk) Crash(keep [2]int) {
	if d.none() {
		return
	}
	d.turn(true)
	for i := range d.files {
		d.files[i].lose(keep[i])
	}
}

// Start gives a disk that is down power again. What is still loose is gone.
func (d *Disk) Start() {
	if d.none() || !d.down {
		return
	}
	d.turn(false)
	for i := range d.files {
		d.files[i].lose(0)
	}
}

// Down reports whether there is no power.
func (d *Disk) Down() bool {
	return d.none() || d.down
}

// Fork returns a disk that is independent of d and the same.
func (d *Disk) Fork() *Disk {
	if d.none() {
		return nil
	}
	f := &Disk{power: d.power}
	for _, c := range d.files {
		f.files = append(f.files, content{bytes.Clone(c.bytes), c.safe})
	}
	return f
}
