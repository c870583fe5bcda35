package machine

// channel is where those that write and read meet. At most one process waits
// at each of its ends: two that could would share it.
type channel struct {
	numbers []int    // those that can be read at once
	reader  *process // who waits to read
	writer  *process // who waits till its number is read; nobody does so for what comes in
}

// send hands a number to the process that waits to read it, or keeps it there.
// It tells whether it has been read.
func (m *Machine) send(place, n int) bool {
	c := &m.channels[place]
	if c.reader == nil {
		c.numbers = append(c.numbers, n)
		return false
	}
	c.reader.told(place, n)
	return true
}

func (c *channel) canBeRead() bool { return len(c.numbers) > 0 }

// receive takes the first number, and lets the one go on that waits for this.
func (c *channel) receive() int {
	n := c.numbers[0]
	c.numbers = c.numbers[1:]
	if writer := c.writer; writer != nil {
		c.writer = nil
		writer.told(0, 0)
	}
	return n
}
