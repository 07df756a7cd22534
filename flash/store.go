package flash

import (
	"bytes"

	"solenoid/api"
)

// size is how many bytes a sector has.
const size = api.Pages * api.Page

// erased is a byte whose bits are all set.
const erased = 255

// store is the sectors' bytes.
type store struct {
	sectors [api.Sectors][size]byte
}

func (s *store) clear() {
	for i := range s.sectors {
		copy(s.sector(i), blank(size))
	}
}

func (s *store) hasSector(sector int) bool { return sector >= 0 && sector < api.Sectors }

func (s *store) hasPage(sector, page int) bool {
	return s.hasSector(sector) && page >= 0 && page < api.Pages
}

// sector is the place itself, not a copy: what is written there is kept.
func (s *store) sector(sector int) []byte { return s.sectors[sector][:] }

// page is a place, as sector.
func (s *store) page(sector, page int) []byte {
	return s.sector(sector)[page*api.Page:][:api.Page]
}

func blank(n int) []byte { return bytes.Repeat([]byte{erased}, n) }

// sets tells whether next has a bit that place has not.
func sets(place, next []byte) bool {
	for i, b := range next {
		if b&^place[i] != 0 {
			return true
		}
	}
	return false
}

// blend changes those bits alone for which mask has a 1, again and again from the place's first byte on.
func blend(place, next, mask []byte) {
	if len(mask) == 0 {
		return
	}
	for i, b := range next {
		place[i] ^= (place[i] ^ b) & mask[i%len(mask)]
	}
}
