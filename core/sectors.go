package core

import (
	"revetment/api"
	"revetment/geom"
	"revetment/rig"
)

// nowhere is the sector of a block or a slot that does not exist. No disk has it, so that the rig answers ErrArg, even when it is down.
const nowhere = -1

// disks returns the rig; a nil core has a nil one, which answers ErrArg.
func (c *Core) disks() *rig.Rig {
	if c == nil {
		return nil
	}
	return c.rig
}

// fits reports whether g is valid and r has room for it. A nil rig has no sectors, thus no room.
func fits(r *rig.Rig, g api.Geom) bool {
	return geom.Good(g) && geom.Fast(g) <= r.Len(rig.Fast) && geom.Slow(g) <= r.Len(rig.Slow)
}

// has reports whether a volume has a block with this number.
func has(g api.Geom, block int) bool {
	return block >= 0 && block < g.Blocks
}

// slotSector returns the sector of a slot on the fast disk.
func slotSector(g api.Geom, i int) int {
	return orNowhere(geom.Slot(g, i))
}

// slowSector returns the sector of a block on the slow disk, which begins with the blocks.
func slowSector(g api.Geom, block int) int {
	if !has(g, block) {
		return nowhere
	}
	return block
}

// areaSector returns the sector of a block of the area on the slow disk.
func areaSector(g api.Geom, i int) int {
	return orNowhere(geom.Area(g, i))
}

// orNowhere returns a sector that geom tells. By 0 it says that there is none: neither the slots nor the area begin a disk.
func orNowhere(sector int) int {
	if sector == 0 {
		return nowhere
	}
	return sector
}
