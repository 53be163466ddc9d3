// Package bag: the packets that are on their way, numbered from 0 on.
package bag

import (
	"slices"
	"strings"

	"pact/api"
)

// Bag holds packets. At first it is empty.
type Bag struct {
	packets []string
}

// Send lays a packet behind the others; it is lost, if the bag is full.
func (b *Bag) Send(packet string) {
	if len(b.packets) < api.MaxBag {
		b.packets = append(b.packets, packet)
	}
}

// Pull takes a packet out, if there is one of that number.
func (b *Bag) Pull(at int) (string, bool) {
	if !b.has(at) {
		return "", false
	}
	packet := b.packets[at]
	b.packets = slices.Delete(b.packets, at, at+1)
	return packet, true
}

// PullAll takes all packets out.
func (b *Bag) PullAll() []string {
	all := b.packets
	b.packets = nil
	return all
}

// Copy lays a packet once more behind the others.
func (b *Bag) Copy(at int) {
	if b.has(at) {
		b.Send(b.packets[at])
	}
}

// Flip turns a bit of a packet, the lowest bit of a byte first.
func (b *Bag) Flip(at, bit int) {
	if !b.has(at) || bit < 0 || bit/8 >= len(b.packets[at]) {
		return
	}
	turned := []byte(b.packets[at])
	turned[bit/8] ^= 1 << (bit % 8)
	b.packets[at] = string(turned)
}

// Tell tells the packets, as copies.
func (b *Bag) Tell() []string {
	var told []string
	for _, packet := range b.packets {
		told = append(told, strings.Clone(packet))
	}
	return told
}

func (b *Bag) has(at int) bool { return 0 <= at && at < len(b.packets) }
