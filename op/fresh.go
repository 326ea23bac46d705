package op

import "hourglass/api"

// span is how far apart the IDs of a stamp are from those of the next one.
const span = 65536

// Fresh has no IDs for the stamp 0: those below 65536 are left to programs that
// are read from a text.
func Fresh(stamp uint32) func() (api.ID, bool) {
	before := api.ID(stamp) * span
	last := before + span - 1
	if stamp == 0 {
		last = before
	}
	return func() (api.ID, bool) {
		if before == last {
			return 0, false
		}
		before++
		return before, true
	}
}
