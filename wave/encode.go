package wave

import (
	"lidar/api"
	"lidar/link"
)

// Encode returns the encoding of a pulse.
func Encode(p api.Pulse) ([]byte, api.Errno) {
	if !Valid(p) {
		return nil, api.ErrPulse
	}
	steps := Differences(p.Samples)
	b := written(nil, link.Number, p.Time)
	for _, n := range p.Scan {
		b = written(b, link.Signed, n)
	}
	b = written(b, link.Number, len(steps))
	for _, s := range steps {
		b = written(b, link.Signed, s.Delta)
		b = written(b, link.Number, s.Count-1)
	}
	return b, api.OK
}

// written appends the encoding of a number of a valid pulse, which is always in the range of what encodes it.
func written(b []byte, encode func([]byte, int) ([]byte, api.Errno), n int) []byte {
	number, _ := encode(nil, n)
	return append(b, number...)
}

// Decode returns the valid pulse whose encoding is b.
func Decode(b []byte) (p api.Pulse, err api.Errno) {
	defer func() {
		switch failure := recover().(type) {
		case nil:
		case api.Errno:
			p, err = api.Pulse{}, failure
		default:
			// The reader panics with errors alone. If it had a mistake, bytes that it cannot read would still be no pulse, and not the end of the program.
			p, err = api.Pulse{}, api.ErrForm
		}
	}()
	r := reader{rest: b}
	p = r.pulse()
	r.expect(len(r.rest) == 0 && Valid(p))
	return p, api.OK
}

// reader reads a pulse from the beginning of rest. Where it cannot go on it panics with an error, so that the methods that call each other need not hand it on.
type reader struct {
	rest []byte
}

func (r *reader) expect(right bool) {
	if !right {
		panic(api.ErrForm)
	}
}

func (r *reader) read(decode func([]byte) (int, int, api.Errno)) int {
	n, size, err := decode(r.rest)
	r.expect(err == api.OK)
	r.rest = r.rest[size:]
	return n
}

func (r *reader) pulse() api.Pulse {
	p := api.Pulse{Time: r.read(link.ReadNumber)}
	for i := range p.Scan {
		p.Scan[i] = r.read(link.ReadSigned)
	}
	p.Samples = r.samples()
	return p
}

func (r *reader) samples() []int {
	number := r.read(link.ReadNumber)
	// Each step has a sample: more steps than samples cannot be right, and they might need much memory.
	r.expect(number <= api.MaxSamples)
	steps := make([]api.Step, number)
	for i := range steps {
		steps[i].Delta = r.read(link.ReadSigned)
		steps[i].Count = r.read(link.ReadNumber) + 1
	}
	samples, err := Rebuild(steps)
	r.expect(err == api.OK)
	return samples
}

// Differences returns the samples as steps.
func Differences(samples []int) []api.Step {
	var steps []api.Step
	last := 0
	for _, s := range samples {
		steps = extended(steps, s-last)
		last = s
	}
	return steps
}

// extended adds one difference behind those of the steps.
func extended(steps []api.Step, delta int) []api.Step {
	if n := len(steps); n > 0 && steps[n-1].Delta == delta {
		steps[n-1].Count++
		return steps
	}
	return append(steps, api.Step{Delta: delta, Count: 1})
}

// Rebuild returns the samples of steps.
func Rebuild(steps []api.Step) ([]int, api.Errno) {
	var samples []int
	last := 0
	for i, step := range steps {
		if i > 0 && step.Delta == steps[i-1].Delta || step.Count < 1 || step.Count > api.MaxSamples-len(samples) {
			return nil, api.ErrForm
		}
		for range step.Count {
			// last is a sample, so a sum that does not fit into an int has the wrong sign and is no sample.
			last += step.Delta
			if !validSample(last) {
				return nil, api.ErrForm
			}
			samples = append(samples, last)
		}
	}
	return samples, api.OK
}
