// Package disk is layer 1: see shared/doc/01-disk.md.
package disk

import (
	"strings"

	"cameo/api"
)

// A pending write waits for a sync; until then a crash may lose it.
type pending struct {
	sector int
	data   string
}

// A Disk is a stand-in: what is written lies there for sure behind a Sync alone.
type Disk struct {
	durable []string
	visible []string
	bad     []bool
	writes  []pending
	limited bool
	fuel    int
	down    bool
}

// New: so many sectors of zeros.
func New(sectors int) (*Disk, api.Errno) {
	if sectors < 1 || sectors > api.MaxSectors {
		return nil, api.ErrArg
	}
	zeros := strings.Repeat("\x00", api.Sector)
	durable := make([]string, sectors)
	for i := range durable {
		durable[i] = zeros
	}
	return holding(durable), api.OK
}

// holding makes a disk on which all of this is durable.
func holding(durable []string) *Disk {
	return &Disk{
		durable: durable,
		visible: append([]string(nil), durable...),
		bad:     make([]bool, len(durable)),
	}
}

// Read: a sector, as it was written last.
func (d *Disk) Read(i int) (string, api.Errno) {
	if d == nil || d.down {
		return "", api.ErrDown
	}
	if !d.has(i) {
		return "", api.ErrArg
	}
	return d.visible[i], api.OK
}

// has tells whether there is such a sector.
func (d *Disk) has(i int) bool { return i >= 0 && i < len(d.visible) }

// burn takes a unit of fuel; without one the disk goes down for good.
func (d *Disk) burn() bool {
	if !d.limited {
		return true
	}
	if d.fuel == 0 {
		d.down = true
		return false
	}
	d.fuel--
	return true
}

// Write: a sector.
func (d *Disk) Write(i int, data string) api.Errno {
	if d == nil || d.down {
		return api.ErrDown
	}
	if !d.has(i) || len(data) != api.Sector {
		return api.ErrArg
	}
	if d.bad[i] {
		return api.ErrBad
	}
	if !d.burn() {
		return api.ErrDown
	}
	d.visible[i] = data
	d.writes = append(d.writes, pending{sector: i, data: data})
	return api.OK
}

// Sync: all that was written stays.
func (d *Disk) Sync() api.Errno {
	if d == nil || d.down || !d.burn() {
		return api.ErrDown
	}
	for _, w := range d.writes {
		d.durable[w.sector] = w.data
	}
	d.writes = nil
	return api.OK
}

// Bad: a sector takes no writes from now on, or takes them again.
func (d *Disk) Bad(i int, bad bool) {
	if d != nil && d.has(i) {
		d.bad[i] = bad
	}
}

// Fuel: how many operations still succeed; below 0: all.
func (d *Disk) Fuel(n int) {
	if d == nil {
		return
	}
	d.limited = n >= 0
	d.fuel = max(n, 0)
}

// Pending: how many writes aren't synced.
func (d *Disk) Pending() int {
	if d == nil {
		return 0
	}
	return len(d.writes)
}

// Crash: what the disk is behind a crash: the picked writes, in the picks' order, each its first bytes.
func (d *Disk) Crash(picks []api.Pick) *Disk {
	if d == nil {
		return nil
	}
	durable := append([]string(nil), d.durable...)
	for _, p := range picks {
		if p.N < 0 || p.N >= len(d.writes) {
			continue
		}
		w := d.writes[p.N]
		kept := min(max(p.Bytes, 0), api.Sector)
		durable[w.sector] = w.data[:kept] + durable[w.sector][kept:]
	}
	d.down = true
	return holding(durable)
}
