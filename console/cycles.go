package console

import (
	"cameo/api"
	"cameo/beam"
	"cameo/dma"
	"cameo/mix"
)

// Where the sound's buffers are fed.
const (
	feedA = 0x40000A0
	feedB = 0x40000A4
)

// pass lets cycles pass; what is due among them is done at its own cycle.
func (c *Console) pass(n int) {
	n = min(n, api.MaxCycles-c.clock.Now())
	if n < 1 || c.clock.Pass(n) != api.OK {
		return
	}
	for {
		e, ok := c.clock.Due()
		if !ok {
			return
		}
		c.events[e.Kind](e.At)
	}
}

// drawn is the picture's part of a cycle at which a line or its blank begins.
func (c *Console) drawn(at int) {
	asks := beam.Asks(at, c.last[regStatus/2])
	for bit := range 16 {
		if asks>>bit&1 != 0 {
			c.irq.Raise(bit)
		}
	}
	line, within := beam.At(at)
	switch {
	case line < api.DrawLines && within != 0:
		c.dma.Moment(dma.HBlank)
	case line < api.DrawLines:
		c.drawLine(line)
	case line == api.DrawLines && within == 0:
		c.dma.Moment(dma.VBlank)
		c.scene.Ref = c.origin
	}
	c.clock.Add(api.Event{At: beam.Next(at), Kind: evPicture})
}

// drawLine draws a line for the scene as it is.
func (c *Console) drawLine(line int) {
	if c.picture == nil {
		c.picture = make([]uint16, 0, api.Width*api.DrawLines)
	}
	dots := mix.Line(&c.scene, &c.mixing, line)
	c.picture = append(c.picture, dots[:]...)
	for k := range 2 {
		par := c.scene.Par[k]
		c.scene.Ref[k][0] += int32(par[1])
		c.scene.Ref[k][1] += int32(par[3])
	}
	if line == api.DrawLines-1 {
		c.frames = append(c.frames, c.picture)
		c.picture = nil
	}
}

// overflowed is the timers' part of a cycle at which one of them overflows by itself.
func (c *Console) overflowed(at int) {
	_, over := c.timers.Fire(at)
	for i := range 4 {
		if over>>i&1 == 0 {
			continue
		}
		if c.timers.Asks(i) {
			c.irq.Raise(api.IrqTimer0 + i)
		}
		if i < 2 {
			c.feed(c.sound.Over(at, i))
		}
	}
	c.setAlarm()
}

// feed tells the channels which buffers of the sound want more.
func (c *Console) feed(hungry int) {
	if hungry&1 != 0 {
		c.dma.Hungry(feedA)
	}
	if hungry&2 != 0 {
		c.dma.Hungry(feedB)
	}
}

// setAlarm makes the timers' next overflow an event.
func (c *Console) setAlarm() {
	c.clock.Cancel(evTimers)
	if at, ok := c.timers.Next(); ok {
		c.clock.Add(api.Event{At: at, Kind: evTimers})
	}
}

// A carrier is the memory of the channels.
type carrier struct{ console *Console }

// Load: data, by a channel.
func (m carrier) Load(ch int, addr uint32, width, class int) uint32 {
	m.console.owner = api.ByDMA0 + ch
	return m.console.Load(addr, width, class)
}

// Store: data, by a channel.
func (m carrier) Store(ch int, addr uint32, width, class int, x uint32) {
	m.console.owner = api.ByDMA0 + ch
	m.console.Store(addr, width, class, x)
}

// bring performs a unit of the channels.
func (c *Console) bring() {
	ready := c.dma.Ready()
	if ready != c.previous {
		c.pause(2)
	}
	ch, done, asks := c.dma.Step(carrier{c})
	c.owner = api.ByCPU
	if asks {
		c.irq.Raise(api.IrqDMA0 + ch)
	}
	c.previous = ready
	if done {
		c.previous = -1
	}
}

// pause lets cycles pass in which nobody has the bus; the buffer doesn't rest.
func (c *Console) pause(n int) {
	c.owner = api.ByIdle
	c.noteIdle(n)
	c.pass(n)
	c.owner = api.ByCPU
}
