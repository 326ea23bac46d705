package reel_test

import (
	"math/rand"
	"testing"

	"hourglass/api"
	"hourglass/crown"
	"hourglass/disk"
	"hourglass/reel"
	"hourglass/trial"
)

// survivors returns the records that Open finds: at least the first fewest of
// all, and no others.
func survivors(t *testing.T, d *disk.Disk, c crown.Crown, fewest int, all [][]byte) [][]byte {
	t.Helper()
	records := open(t, d, c).Records()
	n := len(records)
	if n < fewest || n > len(all) || !sameRecords(records, all[:n]) {
		t.Fatalf("%d records of %d, of which %d were synced, or other ones", n, len(all), fewest)
	}
	return records
}

// appendAll appends records until one fails.
func appendAll(r *reel.Reel, records [][]byte) int {
	for i, p := range records {
		if r.Append(p) != api.OK {
			return i
		}
	}
	return len(records)
}

// TestCrashesInARow tries all that two crashes, one after the other, can keep
// of the writes of two sequences of appends, wherever the disk stopped.
func TestCrashesInARow(t *testing.T) {
	c := crown.Crown{Gen: 2, Half: 1, Serial: 3}
	synced := [][]byte{[]byte("a"), sample(share, 1)}
	rows := [][][]byte{
		{sample(10, 2), sample(2*share, 3)},
		{sample(2*share-2, 4), sample(20, 5)},
		{sample(3*share, 6)},
		{nil, sample(share-60, 7), sample(share, 8)},
	}
	found := map[int]bool{}
	for _, first := range rows {
		for limit := range 5 {
			d := newDisk(t, 20)
			r := open(t, d, c)
			appendAll(r, synced)
			wantErrno(t, "Sync", r.Sync(), api.OK)
			d.Limit(limit)
			appendAll(r, first)
			for _, keep := range trial.Subsets(len(d.Waiting())) {
				s := crash(t, d, keep...)
				records := survivors(t, s, c, len(synced), append(synced[:2:2], first...))
				found[len(records)] = true
				for _, second := range rows {
					crashAgain(t, s.Copy(), c, records, second)
				}
			}
		}
	}
	if !found[2] || !found[3] || !found[4] {
		t.Fatal("the crashes are all alike", found)
	}
}

func crashAgain(t *testing.T, d *disk.Disk, c crown.Crown, records, further [][]byte) {
	t.Helper()
	all := append(records[:len(records):len(records)], further...)
	if n := appendAll(open(t, d, c), further); n != len(further) {
		t.Fatal(n)
	}
	for _, keep := range trial.Subsets(len(d.Waiting())) {
		survivors(t, crash(t, d, keep...), c, len(records), all)
	}
	survivors(t, d, c, len(all), all)
}

// An Append that was stopped leaves the reel as it was, and the next one
// succeeds when the disk goes on. Its pages and those of the stopped one have
// the same Serial: a crash must not join them.
func TestAppendAfterAStoppedOne(t *testing.T) {
	c := crown.First()
	before := [][]byte{sample(100, 1)}
	lost := sample(3*share, 2)
	next := map[string][][]byte{
		"the same one":  {lost},
		"a small one":   {[]byte("b"), sample(2*share, 3)},
		"a long one":    {sample(3*share, 4)},
		"two long ones": {sample(share, 5), sample(share, 6)},
		"a full page":   {sample(share-2-102+1, 7), sample(share, 8)},
	}
	for name, records := range next {
		t.Run(name, func(t *testing.T) {
			for limit := range 4 {
				for again := range 5 {
					stopAndGoOn(t, c, before, lost, records, limit, again)
				}
			}
		})
	}
}

func stopAndGoOn(t *testing.T, c crown.Crown, before [][]byte, lost []byte, next [][]byte, limit, again int) {
	t.Helper()
	d := newDisk(t, 14)
	r := open(t, d, c)
	appendAll(r, before)
	wantErrno(t, "Sync", r.Sync(), api.OK)
	d.Limit(limit)
	wantErrno(t, "Append", r.Append(lost), api.ErrOff)
	wantReel(t, r, 6, 1, before...)
	d.Limit(again) // it may stop once more
	all := append(before[:1:1], next[:appendAll(r, next)]...)
	wantReel(t, r, 6, 1, all...)
	checkCrashes(t, d, c, append(before[:1:1], next...))
	d.Limit(-1)
	rest := next[len(all)-1:]
	if n := appendAll(r, rest); n != len(rest) {
		t.Fatal(n)
	}
	all = append(before[:1:1], next...)
	wantReel(t, r, 6, 1, all...)
	wantReel(t, open(t, d, c), 6, 2, all...)
	checkCrashes(t, d, c, all)
}

func checkCrashes(t *testing.T, d *disk.Disk, c crown.Crown, all [][]byte) {
	t.Helper()
	for _, keep := range trial.Subsets(len(d.Waiting())) {
		survivors(t, crash(t, d, keep...), c, 1, all)
	}
}

// TestCrashesAtRandom appends, syncs, stops, opens again and crashes, over and
// over.
func TestCrashesAtRandom(t *testing.T) {
	crashes, gained, lost := 0, 0, 0
	for seed := range int64(400) {
		rnd := rand.New(rand.NewSource(seed))
		c := crown.Crown{Gen: 1 + rnd.Uint32()%5, Half: byte(rnd.Intn(2)), Serial: rnd.Uint32() % (1 << 31)}
		d := newDisk(t, 6+rnd.Intn(40))
		r := open(t, d, c)
		var all [][]byte
		synced := 0
		for k := range int64(60) {
			switch rnd.Intn(12) {
			case 0:
				if r.Sync() == api.OK {
					synced = len(all)
				}
			case 1:
				keep := make([]bool, len(d.Waiting()))
				most := rnd.Intn(5)
				for i := range keep {
					keep[i] = rnd.Intn(5) <= most
				}
				d = crash(t, d, keep...)
				records := survivors(t, d, c, synced, all)
				crashes++
				gained += len(records) - synced
				lost += len(all) - len(records)
				all, synced = records, len(records)
				r = open(t, d, c)
			case 2:
				d.Limit(rnd.Intn(6))
			case 3:
				r = open(t, d, c)
				survivors(t, d, c, len(all), all)
			default:
				if rnd.Intn(2) == 0 {
					d.Limit(-1)
				}
				// The same records again and again, so that pages stay the same.
				p := sample(rnd.Intn(4)*share/2+rnd.Intn(2)*rnd.Intn(40), k%2)
				if r.Append(p) == api.OK {
					all = append(all, p)
				}
			}
			if !sameRecords(r.Records(), all) {
				t.Fatal(seed, k)
			}
		}
	}
	if crashes < 1000 || gained < 100 || lost < 100 {
		t.Fatal("the crashes are all alike", crashes, gained, lost)
	}
}
