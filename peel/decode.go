package peel

import (
	"bytes"
	"cmp"
	"slices"

	"conflux/api"
	"conflux/cover"
	"conflux/mask"
	"conflux/serial"
	"conflux/solve"
)

// clamp is n within 1 and most. A Decoder that New didn't make counts as one of the
// least limits.
func clamp(n, most int) int { return max(1, min(n, most)) }

func maskOf(r *api.Repair) mask.Mask { return mask.Mask{Hi: r.Hi, Lo: r.Lo} }

func (d *Decoder) stored(seq uint16) ([]byte, bool) {
	b, ok := d.packets[seq]
	return b, ok
}

func (d *Decoder) isStored(seq uint16) bool {
	_, ok := d.stored(seq)
	return ok
}

// within tells whether a number is within the window that a newest one ends. If there
// is no packet yet, that is 0, and every number is.
func (d *Decoder) within(seq uint16, newest int64) bool {
	return d.numbers.Peek(seq) > newest-int64(clamp(d.w, api.MaxMedia))
}

// allWithin tells whether all numbers of a repair are. Those that are stored need no
// look of their own: what falls out of the window is removed at once.
func (d *Decoder) allWithin(r *api.Repair, newest int64) bool {
	for _, n := range cover.Each(r.Base, maskOf(r)) {
		if !d.within(n, newest) {
			return false
		}
	}
	return true
}

// first is the first number of a repair.
func (d *Decoder) first(r *api.Repair) int64 {
	return d.numbers.Peek(serial.Add(r.Base, maskOf(r).First()))
}

// store keeps a packet, and removes what is too old from then on.
func (d *Decoder) store(seq uint16, b []byte) {
	if !d.numbers.Started() {
		d.packets = map[uint16][]byte{}
		// Only now do the numbers of the repairs have a place ahead or behind.
		d.numbers.Of(seq)
	}
	// Ahead of Of: once the newest number has jumped by almost half the circle, those
	// that were behind the former one would count as ahead of it.
	d.removeOld(max(d.numbers.Highest(), d.numbers.Peek(seq)))
	d.numbers.Of(seq)
	d.packets[seq] = bytes.Clone(b)
}

// removeOld removes what isn't within the window that a newest number ends.
func (d *Decoder) removeOld(newest int64) {
	for n := range d.packets {
		if !d.within(n, newest) {
			delete(d.packets, n)
		}
	}
	d.repairs = slices.DeleteFunc(d.repairs, func(r *api.Repair) bool {
		return !d.allWithin(r, newest)
	})
}

// makeRoom removes a repair for a new one, if there are as many as may be. It tells
// whether the new one can be stored.
func (d *Decoder) makeRoom(r *api.Repair) bool {
	if len(d.repairs) < clamp(d.r, api.MaxRepair) {
		return true
	}
	// Of several least ones, MinFunc returns the one that arrived first.
	least := slices.MinFunc(d.repairs, func(a, b *api.Repair) int {
		return cmp.Compare(d.first(a), d.first(b))
	})
	if d.first(r) < d.first(least) {
		return false
	}
	d.remove(least)
	return true
}

func (d *Decoder) remove(r *api.Repair) {
	d.repairs = slices.DeleteFunc(d.repairs, func(s *api.Repair) bool { return s == r })
}

// recoverAll recovers packets, round by round.
func (d *Decoder) recoverAll() []Got {
	var all []Got
	for {
		got := d.round()
		if len(got) == 0 {
			return all
		}
		all = append(all, got...)
	}
}

// round visits each repair once.
func (d *Decoder) round() []Got {
	var got []Got
	for _, r := range slices.Clone(d.repairs) {
		// A packet that was recovered in this round may have made this one too old.
		if !slices.Contains(d.repairs, r) {
			continue
		}
		seq, b, e := solve.One(*r, d.ssrc, d.stored)
		if e == api.ErrLess {
			continue
		}
		d.remove(r)
		if e == api.OK {
			d.store(seq, b)
			got = append(got, Got{Seq: seq, Bytes: b, Told: true})
		}
	}
	return got
}
