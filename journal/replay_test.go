package journal_test

import (
	"slices"
	"testing"

	"coffer/api"
	"coffer/disk"
	"coffer/journal"
)

// laid is a disk with an anchor, and with a commit at its position.
func laid(t *testing.T, size, ring, position int, turn uint64, l []api.Put) *disk.Disk {
	t.Helper()
	d := newDisk(t, size)
	lay(t, d, slices.Concat([]step{{1, anchorOf(7, turn, position, ring)}}, storeSteps(turn, position, ring, l))...)
	return d
}

// wantReplayed opens a disk, and holds its home sectors against so many commits having been replayed.
func wantReplayed(t *testing.T, where string, d *disk.Disk, turn uint64, lists ...[]api.Put) {
	t.Helper()
	b := &bench{t: t, d: d, twin: d.Copy()}
	want := imageOf(t, d)[d.Len()-homesOf(t, d):]
	for _, l := range lists {
		for _, x := range l {
			want[x.Sector] = x.Data
		}
	}
	b.open(api.OK)
	wantNumbers(t, where, b.j, len(want), turn+uint64(len(lists))-1, b.m.ring)
	for i := range want {
		wantRead(t, where, b.j, i, want[i])
	}
	writes := d.Writes()
	if j, e := journal.Open(d); e != api.OK || d.Writes() != writes || j.Turn() != b.j.Turn() {
		t.Errorf("P6.2: %s: a second Open: error %d, %d writes", where, e, d.Writes()-writes)
	}
}

func homesOf(t *testing.T, d *disk.Disk) int {
	t.Helper()
	m, _, e := plainOpen(imageOf(t, d))
	if e != api.OK {
		t.Fatalf("the plain journal answers Open with error %d", e)
	}
	return m.homes
}

// Commits of all lengths at all positions, those that go round the end of the ring among them.
func TestReplayOfOneCommit(t *testing.T) {
	for _, ring := range []int{8, 9, 13} {
		for position := range ring {
			for n := 1; n < ring; n++ {
				l := putsOf(n, 2, n)
				wantReplayed(t, "one commit", laid(t, 45, ring, position, 5, l), 5, l)
			}
		}
	}
}

func TestReplayOfLongCommits(t *testing.T) {
	for _, c := range []struct{ size, ring, n int }{{100, 41, 40}, {100, 42, 40}, {100, 40, 39}, {2000, 1024, 40}, {1034, 1024, 8}} {
		for _, position := range []int{0, 1, 20, c.ring - 30, c.ring - 1} {
			l := putsOf(c.n, 0, c.n)
			slices.Reverse(l)
			wantReplayed(t, "a long commit", laid(t, c.size, c.ring, position, 5, l), 5, l)
		}
	}
}

// badCommit is a commit of the turn 50 of three sectors at the position 6 of a ring of 8, with one sector laid over.
func badCommit(t *testing.T, over step) *disk.Disk {
	t.Helper()
	d := laid(t, 64, 8, 6, 50, putsOf(1, 20, 3))
	lay(t, d, over)
	return d
}

// The header is in the disk's sector 8; the sectors of the commit are in 9, 2 and 3.
func TestInvalidHeaders(t *testing.T) {
	good := headerOf(50, putsOf(1, 20, 3))
	for where, bad := range map[string][]byte{
		"the first copy of the tag is less":    changed(good, 0, 99, 8),
		"the first copy of the tag is greater": changed(good, 0, 103, 8),
		"the first copy of the tag is even":    changed(good, 0, 100, 8),
		"the first copy's high byte":           changed(good, 0, 1, 1),
		"the last copy of the tag is less":     changed(good, 504, 99, 8),
		"the last copy of the tag is greater":  changed(good, 504, 103, 8),
		"the last copy of the tag is 0":        changed(good, 504, 0, 8),
		"the last copy's high byte":            changed(good, 504, 1, 1),
		"the turn before":                      headerOf(49, putsOf(1, 20, 3)),
		"the turn behind":                      headerOf(51, putsOf(1, 20, 3)),
		"the tag of a ring sector":             changed(changed(good, 0, 100, 8), 504, 100, 8),
		"both copies are the turn":             changed(changed(good, 0, 50, 8), 504, 50, 8),
		"both copies are 0":                    changed(changed(good, 0, 0, 8), 504, 0, 8),
		"no sectors":                           changed(good, 8, 0, 2),
		"one sector more than there is":        changed(good, 8, 4, 2),
		"as many sectors as the ring":          changed(good, 8, 8, 2),
		"more sectors than the ring":           changed(good, 8, 9, 2),
		"40 sectors":                           changed(good, 8, 40, 2),
		"41 sectors":                           changed(good, 8, 41, 2),
		"256 and 3 sectors":                    changed(good, 8, 259, 2),
		"2^16 - 1 sectors":                     changed(good, 8, 1<<16-1, 2),
		"the first home is none":               changed(good, 16, 54, 4),
		"the last home is none":                changed(good, 40, 54, 4),
		"a home is 2^31":                       changed(good, 28, 1<<31, 4),
		"a home is 2^32 - 1":                   changed(good, 28, 1<<32-1, 4),
		"a home's high byte":                   changed(good, 28, 1, 1),
		"the first home stands again":          changed(good, 28, 20, 4),
		"the first home stands at the end":     changed(good, 40, 20, 4),
		"the second home stands again":         changed(good, 40, 21, 4),
	} {
		wantReplayed(t, where, badCommit(t, step{8, bad}), 50)
	}
}

func TestInvalidRingSectors(t *testing.T) {
	l := putsOf(1, 20, 3)
	for k, sector := range []int{9, 2, 3} {
		for _, tag := range []uint64{0, 50, 98, 99, 101, 102, 1<<56 + 100, 100 << 8} {
			wantReplayed(t, "a ring sector's tag", badCommit(t, step{sector, changed(l[k].Data, 0, tag, 8)}), 50)
		}
		wantReplayed(t, "a ring sector is that of the turn before", badCommit(t, step{sector, ringOf(49, l[k].Data)}), 50)
		wantReplayed(t, "a ring sector is empty", badCommit(t, step{sector, zeros()}), 50)
	}
}

// What the promise does not name may be anything: other bytes of the header, and all but the first bytes of a ring sector.
func TestUnlikelyButValidCommits(t *testing.T) {
	l := putsOf(1, 20, 3)
	good := headerOf(50, l)
	for at := 10; at < 504; at++ {
		if at >= 16 && at < 52 {
			continue
		}
		wantReplayed(t, "other bytes of a header", badCommit(t, step{8, changed(good, at, 255, 1)}), 50, l)
	}
	other := slices.Clone(l)
	other[1].Data = append(slices.Clone(l[1].Data[:8]), sectorOf(77)[8:]...)
	wantReplayed(t, "other bytes of a ring sector", badCommit(t, step{2, ringOf(50, other[1].Data)}), 50, other)
	other = slices.Clone(l)
	other[2].Data = append([]byte("the head"), l[2].Data[8:]...)
	wantReplayed(t, "other bytes of a row", badCommit(t, step{8, headerOf(50, other)}), 50, other)
}

// With 41 sectors each of which stands in a ring that is long enough, but for a row in the header.
func TestReplayOf41(t *testing.T) {
	for _, n := range []int{39, 40, 41} {
		l := putsOf(1, 0, n)
		d := newDisk(t, 200)
		steps := []step{{1, anchorOf(7, 50, 60, 64)}, {2 + 60, headerOf(50, l[:min(n, 40)])}}
		if n == 41 {
			bad := changed(headerOf(50, l[:40]), 8, 41, 2)
			steps[1].data = changed(bad, 496, 40, 4)
		}
		for k, x := range l {
			steps = append(steps, step{2 + (61+k)%64, ringOf(50, x.Data)})
		}
		lay(t, d, steps...)
		if n == 41 {
			wantReplayed(t, "41 sectors", d, 50)
		} else {
			wantReplayed(t, "40 sectors", d, 50, l)
		}
	}
}

// The commits are replayed up to the first one that is not valid, and of each home sector the last data counts.
func TestReplayOfARow(t *testing.T) {
	lists := [][]api.Put{putsOf(1, 0, 3), putsOf(2, 2, 4), putsOf(3, 1, 2), putsOf(4, 10, 1), putsOf(5, 0, 2)}
	const ring, position = 17, 11
	for bad := range len(lists) + 1 {
		d := newDisk(t, 64)
		steps := []step{{0, anchorOf(8, 90, position, ring)}}
		at, gap := position, 0
		for k, l := range lists {
			if k == bad {
				gap = at
			}
			steps = append(steps, storeSteps(90+uint64(k), at%ring, ring, l)...)
			at += len(l) + 1
		}
		if bad < len(lists) {
			steps = append(steps, step{2 + gap%ring, zeros()})
		}
		lay(t, d, steps...)
		wantReplayed(t, "a row of commits", d, 90, lists[:bad]...)
	}
}

// A full ring: the last commit ends where the first one begins.
func TestReplayOfAFullRing(t *testing.T) {
	for position := range 8 {
		lists := [][]api.Put{putsOf(1, 0, 2), putsOf(2, 1, 1), putsOf(3, 2, 2)}
		d := newDisk(t, 32)
		steps := []step{{0, anchorOf(8, 1, position, 8)}}
		for k, l := range lists {
			steps = append(steps, storeSteps(1+uint64(k), (position+[]int{0, 3, 5}[k])%8, 8, l)...)
		}
		lay(t, d, steps...)
		wantReplayed(t, "a full ring", d, 1, lists...)
	}
}

// A commit that was replayed before is not replayed again, though it still stands in the ring.
func TestReplayIsNotRepeated(t *testing.T) {
	b := newBench(t, 64, 16)
	for k := range 12 {
		b.commit(putsOf(k, k, 2), api.OK)
		b.power(false)
		b.open(api.OK)
		b.open(api.OK)
	}
}

// The greater anchor counts although the commit behind the lesser one is valid.
func TestReplayBehindTheGreaterAnchor(t *testing.T) {
	l := putsOf(1, 4, 2)
	d := laid(t, 32, 8, 3, 9, l)
	lay(t, d, step{0, anchorOf(8, 10, 6, 8)})
	wantReplayed(t, "the greater anchor", d, 10)
	lay(t, d, step{0, zeros()})
	wantReplayed(t, "the lesser anchor", d, 9, l)
}

// Disks that are almost right, by hazard: what Open does is held against the plain journal.
func TestReplayOfDamage(t *testing.T) {
	rounds := 6000
	if testing.Short() {
		rounds = 500
	}
	bases := damageBases(t)
	next := numbers(4)
	for range rounds {
		d := bases[next()%uint64(len(bases))].Copy()
		for range 1 + next()%3 {
			sector := int(next() % 12)
			old, _ := d.Read(sector)
			at := []int{0, 7, 8, 9, 15, 16, 19, 20, 23, 28, 31, 504, 511, int(next() % 512)}[next()%14]
			lay(t, d, step{sector, changed(old, at, []uint64{0, 1, 8, 255, uint64(old[at]) + 1, uint64(old[at]) ^ 1<<(next()%8), next()}[next()%7]&255, 1)})
		}
		_, _, want := plainOpen(imageOf(t, d))
		b := &bench{t: t, d: d, twin: d.Copy()}
		b.open(want)
	}
}

// damageBases are disks of 32 sectors with commits in a ring of 8 or 9 that are to be replayed.
func damageBases(t *testing.T) []*disk.Disk {
	var l []*disk.Disk
	for _, ring := range []int{8, 9} {
		for k := range 6 {
			b := newBench(t, 32, ring)
			for i := range k {
				b.commit(putsOf(i, i, 1), api.OK)
			}
			b.checkpoint(api.OK)
			b.commit(putsOf(7, 3, 2), api.OK)
			b.commit(putsOf(8, 4, 3), api.OK)
			l = append(l, b.d)
		}
	}
	return l
}
