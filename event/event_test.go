package event_test

import (
	"math"
	"testing"

	"gyttja/api"
	"gyttja/event"
)

// An event is valid up to each limit, and not beyond it, whatever the others are.
func TestIsValid(t *testing.T) {
	good := api.Event{Id: 1, Kind: 0, Mark: 5, Lo: 2, Hi: 3}
	for _, change := range []struct {
		set             func(v *api.Event, n int)
		least, greatest int
	}{
		{func(v *api.Event, n int) { v.Id = n }, 1, 99999},
		{func(v *api.Event, n int) { v.Kind = n }, 0, 99},
		{func(v *api.Event, n int) { v.Mark = n }, 0, 2048},
		{func(v *api.Event, n int) { v.Lo = n }, -100000, 3},
		{func(v *api.Event, n int) { v.Hi = n }, 2, 100000},
		{func(v *api.Event, n int) { v.Lo, v.Hi = n, n }, -100000, 100000},
	} {
		for n, want := range map[int]bool{
			change.least: true, change.greatest: true, change.least - 1: false, change.greatest + 1: false, math.MinInt: false, math.MaxInt: false,
		} {
			v := good
			change.set(&v, n)
			if event.IsValid(v) != want {
				t.Error(v)
			}
		}
	}
}
