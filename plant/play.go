package plant

import (
	"lidar/api"
	"lidar/tile"
)

// Play carries out events with a new plant on a new disk, and returns the answer to each of them.
func Play(c api.Config, events []api.Event) ([]api.Answer, api.Errno) {
	if !Valid(c) {
		return nil, api.ErrConfig
	}
	if len(events) > api.MaxEvents {
		return nil, api.ErrArg
	}
	p, _ := New(c, tile.NewDisk()) // no error: the disk is up and empty
	var answers []api.Answer
	for _, e := range events {
		answers = append(answers, p.answer(e))
	}
	return answers, api.OK
}

// answer carries out an event.
func (p *Plant) answer(e api.Event) (a api.Answer) {
	switch e.Kind {
	case api.EventData:
		in, err := p.Feed(e.Bytes)
		a.N, a.Err = in.Taken, err
	case api.EventGiveUp:
		a.Err = p.GiveUp(e.A, e.B)
	case api.EventTie:
		a.Err = p.Tie(e.Match)
	case api.EventEdit:
		a.Err = p.Correct(e.Edit)
	case api.EventPublish:
		a.N, a.Err = p.Publish()
	case api.EventArm:
		p.disk.Arm(e.A)
	case api.EventCrash:
		a.N, a.Err = p.crash(e.Keep)
	case api.EventOrder:
		a.Bytes, a.Err = p.Order(e.A, e.Order)
	case api.EventBreak:
		a.Err = p.Break(e.A, e.B)
	default:
		a.Err = api.ErrArg
	}
	return a
}

// crash lets the disk lose power, gives it power again, and returns the version that is there then.
func (p *Plant) crash(keep [2]int) (int, api.Errno) {
	p.disk.Crash(keep)
	p.disk.Start()
	if err := p.Reopen(); err != api.OK {
		return 0, err
	}
	return p.Version(), api.OK
}
