package disk

// cut is a write at which the power goes; the zero cut waits for none.
type cut struct {
	left int  // writes till then, that one with them; none waits, if it is 0
	late bool // the power goes when the sector is written already
}

// falls counts a write, and tells whether the power goes at it.
func (c *cut) falls() bool {
	if c.left == 0 {
		return false
	}
	c.left--
	return c.left == 0
}

// Cut lets the power go at a later write.
func (d *Disk) Cut(n, how int) {
	// The lowest bit tells odd from even below 0 too, where a remainder would be -1.
	d.cut = cut{left: max(n, 0), late: how&1 == 1}
}

// On brings it back.
func (d *Disk) On() {
	d.power = true
	d.cut = cut{}
	d.lives++
}

// Power tells whether there is any.
func (d *Disk) Power() bool { return d.power }

// Lives tells how often the power came.
func (d *Disk) Lives() int { return d.lives }
