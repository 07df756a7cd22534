package flash

import "bytes"

// power counts the operations, and goes at one of them, if it was told to.
type power struct {
	dead bool
	ops  int
	left int    // how many operations, up to the one at which it goes; 0: at none
	mask []byte // what of that one is done
}

// arm keeps of mask no more than an operation can use.
func (p *power) arm(n int, mask []byte) {
	p.disarm()
	if n > 0 {
		p.left = n
		p.mask = bytes.Clone(mask[:min(len(mask), size)])
	}
}

func (p *power) disarm() { p.left, p.mask = 0, nil }

func (p *power) restore() {
	p.dead = false
	p.disarm()
}

// spend counts an operation, and tells whether the power goes at it, and what of it is done then.
func (p *power) spend() (mask []byte, goes bool) {
	p.ops++
	if p.left != 1 {
		p.left = max(p.left-1, 0)
		return nil, false
	}
	mask = p.mask
	p.dead = true
	p.disarm()
	return mask, true
}
