package slots

import (
	"cmp"
	"slices"

	"solenoid/api"
	"solenoid/flash"
	"solenoid/record"
)

// sectors is how many sectors have entries, from sector 0 on.
const sectors = 2

// placed is an entry, and where it stands: in which sector, as which of its records.
type placed struct {
	Entry
	sector, at int
}

// compare is above 0 where p goes ahead of q. No two that stand in a memory are alike to it.
func (p placed) compare(q placed) int {
	return cmp.Or(
		cmp.Compare(p.Seq, q.Seq),
		cmp.Compare(q.sector, p.sector),
		cmp.Compare(p.at, q.at),
	)
}

// entries is all that stand in the memory, whether they count or not.
func entries(f *flash.Flash) []placed {
	var l []placed
	for sector := range sectors {
		records, _ := record.Load(f, sector)
		for at, b := range records {
			if e, fault := Parse(b); fault == api.OK {
				l = append(l, placed{Entry: e, sector: sector, at: at})
			}
		}
	}
	return l
}

// newest is the entry that goes ahead of all others; of none: noughts, which no entry is, as its number would be 0.
func newest(l ...placed) placed {
	if len(l) == 0 {
		return placed{}
	}
	return slices.MaxFunc(l, placed.compare)
}

func other(sector int) int { return sectors - 1 - sector }
