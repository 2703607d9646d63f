package peel

import (
	"bytes"
	"cmp"
	"slices"

	"conflux/api"
	"conflux/cover"
	"conflux/mask"
	"conflux/serial"
	"conflux/solve"
)

// clamp is n within 1 and most. A Decoder that New didn't make counts as one of the
// least limits.
func clamp(n, most int) int { return max(1, min(n, most)) }

func maskOf(r *api.Repair) mask.Mask { return mask.Mask{Hi: r.Hi, Lo: r.Lo} }

func (d *Decoder) stored(seq uint16) ([]byte, bool) {
	p, ok := d.packets[seq]
	return p.data, ok
}

func (d *Decoder) isStored(seq uint16) bool {
	_, ok := d.stored(seq)
	return ok
}

// within tells whether an extended number is within the window. If there is no packet
// yet, the newest number is 0, and every number is.
func (d *Decoder) within(at int64) bool {
	return at > d.numbers.Highest()-int64(clamp(d.w, api.MaxMedia))
}

// allWithin tells whether all numbers of a repair are. They are extended at each call:
// once the newest number has jumped by almost half the circle, what was behind is ahead.
// Those that are stored need no look of their own: they are within the window.
func (d *Decoder) allWithin(r *api.Repair) bool {
	for _, n := range cover.Each(r.Base, maskOf(r)) {
		if !d.within(d.numbers.Peek(n)) {
			return false
		}
	}
	return true
}

// first is the first number of a repair.
func (d *Decoder) first(r *api.Repair) int64 {
	return d.numbers.Peek(serial.Add(r.Base, maskOf(r).First()))
}

// store keeps a packet, and removes what is too old from then on.
func (d *Decoder) store(seq uint16, b []byte) {
	if d.packets == nil {
		d.packets = map[uint16]kept{}
	}
	d.packets[seq] = kept{at: d.numbers.Of(seq), data: bytes.Clone(b)}
	d.removeOld()
}

// removeOld removes what isn't within the window any more.
func (d *Decoder) removeOld() {
	for n, p := range d.packets {
		if !d.within(p.at) {
			delete(d.packets, n)
		}
	}
	d.repairs = slices.DeleteFunc(d.repairs, func(r *api.Repair) bool { return !d.allWithin(r) })
}

// makeRoom removes a repair for a new one, if there are as many as may be. It tells
// whether the new one can be stored.
func (d *Decoder) makeRoom(r *api.Repair) bool {
	if len(d.repairs) < clamp(d.r, api.MaxRepair) {
		return true
	}
	// Of several least ones, MinFunc returns the one that arrived first.
	least := slices.MinFunc(d.repairs, func(a, b *api.Repair) int {
		return cmp.Compare(d.first(a), d.first(b))
	})
	if d.first(r) < d.first(least) {
		return false
	}
	d.remove(least)
	return true
}

func (d *Decoder) remove(r *api.Repair) {
	d.repairs = slices.DeleteFunc(d.repairs, func(s *api.Repair) bool { return s == r })
}

// recoverAll recovers packets, round by round.
func (d *Decoder) recoverAll() []Got {
	var all []Got
	for {
		got := d.round()
		if len(got) == 0 {
			return all
		}
		all = append(all, got...)
	}
}

// round visits each repair once.
func (d *Decoder) round() []Got {
	var got []Got
	for _, r := range slices.Clone(d.repairs) {
		// A packet that was recovered in this round may have made this one too old.
		if !slices.Contains(d.repairs, r) {
			continue
		}
		seq, b, e := solve.One(*r, d.ssrc, d.stored)
		if e == api.ErrLess {
			continue
		}
		d.remove(r)
		if e == api.OK {
			d.store(seq, b)
			got = append(got, Got{Seq: seq, Bytes: b, Told: true})
		}
	}
	return got
}
