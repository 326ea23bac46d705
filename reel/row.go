package reel

import (
	"slices"

	"hourglass/api"
	"hourglass/tape"
)

// Lay returns the row of the records.
func Lay(records ...[]byte) []byte {
	var w tape.Writer
	for _, p := range records {
		w.Text(string(p))
	}
	return w.Bytes()
}

// Cut takes a row apart as far as its records are complete.
func Cut(p []byte) ([][]byte, int) {
	var records [][]byte
	end := 0
	own := slices.Clone(p)
	for r := tape.Read(p); r.Left() > 0; {
		size := len(r.Text(api.MaxRecord))
		if r.Left() == 0 && r.Done() != api.OK {
			break
		}
		end = len(p) - r.Left()
		// Appending to a record must not reach the one after it.
		records = append(records, own[end-size:end:end])
	}
	return records, end
}
