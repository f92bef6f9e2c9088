package space_test

import (
	"testing"

	"coffer/api"
)

// overNoise is what a transaction tells behind Format of a journal whose home sectors held something else.
func overNoise(homes, touched int) sight {
	s := sight{touched: touched}
	for i := range homes {
		s.sectors = append(s.sectors, sectorOf(i))
	}
	for i := range 4 {
		s.sectors[i] = zeros()
	}
	s.sectors[1][0] = 15
	return s
}

// Byte by byte, over sectors of the journal that held something else, and over sectors that the transaction itself wrote; no other sector changes.
func TestFormat(t *testing.T) {
	for _, own := range []int{0, 1, 2, 3, 4, 30} {
		_, j := opened(t, 64, 16)
		for first := 0; first < 46; first += 15 {
			x := begin(t, j)
			for i := first; i < min(first+15, 46); i++ {
				write(t, x, i, sectorOf(i))
			}
			commit(t, x)
		}
		x := begin(t, j)
		for i := range own {
			b := sectorOf(i)
			if i < 4 {
				b = sectorOf(1000 + i)
			}
			write(t, x, i, b)
		}
		for range 2 {
			want(t, "Format", x, format(), 0, api.OK)
			wantSight(t, "P8.1: Format", x, overNoise(46, max(own, 4)))
		}
		x.Abort()
		y := begin(t, j)
		want(t, "Format", y, format(), 0, api.OK)
		commit(t, y)
		wantSight(t, "P8.1: Format, and Commit", begin(t, j), overNoise(46, 0))
	}
}

// What is allocated, and each root, is gone.
func TestFormatAnew(t *testing.T) {
	x := formatted(t, 64, 16)
	fresh := sightOf(t, x)
	for k := range 16 {
		want(t, "before Format", x, setRoot(k, 1<<31+5), 0, api.OK)
	}
	want(t, "before Format", x, take(42), 4, api.OK)
	want(t, "Format anew", x, format(), 0, api.OK)
	wantSight(t, "P8.1: Format anew", x, fresh)
	want(t, "Format anew", x, left(), 42, api.OK)
	want(t, "Format anew", x, root(9), 0, api.OK)
	want(t, "Format anew", x, take(1), 4, api.OK)
}

// With each choice of the four sectors written already, and with others up to what a transaction may write: Format does all that it does, or nothing.
func TestFormatWithLittleRoom(t *testing.T) {
	_, j := opened(t, 200, 64)
	for choice := range 16 {
		for others := 33; others <= 40; others++ {
			x := begin(t, j)
			total := others
			for i := range 4 {
				if choice>>i&1 == 1 {
					total++
				}
			}
			if total > 40 {
				continue
			}
			for i := range 4 {
				if choice>>i&1 == 1 {
					write(t, x, i, sectorOf(i))
				}
			}
			for i := range others {
				write(t, x, 20+i, sectorOf(20+i))
			}
			if others > 36 {
				wantFailure(t, "no room", x, format(), api.ErrLong)
				wantFailure(t, "no room, again", x, format(), api.ErrLong)
			} else {
				want(t, "room", x, format(), 0, api.OK)
				wantSight(t, "P8.1: Format", x, littleRoom(others))
			}
			x.Abort()
		}
	}
}

// littleRoom is what a transaction tells that has written so many others, from 20 on, and then Format.
func littleRoom(others int) sight {
	s := sight{touched: others + 4}
	for i := range 134 {
		b := zeros()
		if i >= 20 && i < 20+others {
			b = sectorOf(i)
		}
		s.sectors = append(s.sectors, b)
	}
	s.sectors[1][0] = 15
	return s
}

// A transaction goes on behind a Format that failed, and commits what it had written before.
func TestBehindAFormatThatFailed(t *testing.T) {
	_, j := opened(t, 200, 64)
	x := begin(t, j)
	for i := range 36 {
		write(t, x, 20+i, sectorOf(20+i))
	}
	write(t, x, 10, sectorOf(10))
	write(t, x, 2, sectorOf(2))
	wantFailure(t, "37 others", x, format(), api.ErrLong)
	write(t, x, 3, sectorOf(3))
	write(t, x, 11, sectorOf(11))
	wantFailure(t, "38 others", x, format(), api.ErrLong)
	behind := sightOf(t, x)
	commit(t, x)
	behind.touched = 0
	wantSight(t, "P0.2: committed behind a Format that failed", begin(t, j), behind)
}
