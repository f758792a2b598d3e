package script

import (
	"cameo/api"
)

// pair adds a number of sixteen bits, the lower byte first.
func pair(b []byte, x uint16) []byte { return append(b, byte(x), byte(x>>8)) }

// pictures gives the bytes of which the checksum of pictures is made.
func pictures(all [][]uint16) string {
	var b []byte
	for _, picture := range all {
		for _, colour := range picture {
			b = pair(b, colour)
		}
	}
	return string(b)
}

// sides gives those of samples.
func sides(all []api.Sample) string {
	b := make([]byte, 0, 4*len(all))
	for _, s := range all {
		b = pair(b, uint16(s.L))
		b = pair(b, uint16(s.R))
	}
	return string(b)
}

// accesses gives those of accesses.
func accesses(all []api.Access) string {
	b := make([]byte, 0, 14*len(all))
	for _, a := range all {
		b = pair(b, uint16(a.At))
		b = pair(b, uint16(a.Owner<<8|a.Width&0xFF))
		b = pair(b, uint16(a.Addr))
		b = pair(b, uint16(a.Addr>>16))
		b = pair(b, uint16(a.Data))
		b = pair(b, uint16(a.Data>>16))
		b = pair(b, uint16(a.Class))
	}
	return string(b)
}
