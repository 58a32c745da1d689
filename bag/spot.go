package bag

import (
	"missive/api"
	"missive/plane"
)

// devices is the node of the device 0.
const devices = 16

// spot is where a node stands: a device stands where its server does.
func spot(node byte) (complex128, bool) {
	server := int(node)
	if node >= devices {
		server = int(node-devices) / api.MaxDevices
	}
	if server >= api.MaxServers {
		return 0, false
	}
	return plane.Spot(server)
}

// ticks is how long a packet is on the way between two nodes, if both stand somewhere.
func ticks(from, to byte) (int, bool) {
	a, ok := spot(from)
	b, there := spot(to)
	n, _ := plane.Far(a, b)
	return 1 + n, ok && there
}
