package node

import (
	"slices"

	"slotmesh/api"
	"slotmesh/beacon"
	"slotmesh/custody"
	"slotmesh/down"
	"slotmesh/join"
	"slotmesh/keyring"
	"slotmesh/link"
	"slotmesh/queue"
	"slotmesh/seal"
	"slotmesh/seen"
	"slotmesh/sponsor"
	"slotmesh/spread"
	"slotmesh/timesync"
	"slotmesh/wire"
)

// nonceUnit is what the nonce of a proof is multiplied by in the value of a reading, beside the stranger.
const nonceUnit = 64

// hearing is a node that has caught a frame, when its clock showed local.
type hearing struct {
	*worker
	caught api.Frame
	local  int
}

// handlers returns the methods that handle frames, by the kinds of these.
func handlers() map[int]func(*hearing) bool {
	return map[int]func(*hearing) bool{
		api.FrameBeacon: (*hearing).beacon,
		api.FrameData:   (*hearing).data,
		api.FrameJoin:   (*hearing).request,
	}
}

// Hear returns a node after a frame was caught, and whether it acknowledges it.
func Hear(n api.Node, l api.Layout, f api.Frame, asn, local int) (api.Node, bool) {
	h := &hearing{open(n, l, asn), f, local}
	handle, ok := handlers()[f.Kind]
	if !ok || !n.Up || !validLayout(l) || !isSlot(asn) || f.From < 0 || f.From >= l.Nodes || f.From == n.ID {
		return h.Node, false
	}
	acked := handle(h)
	return h.Node, acked
}

// opened reports whether the frame is sealed by a key of a ring.
func (h *hearing) opened(ring api.Ring) bool { return seal.Open(h.caught, ring, h.asn) == api.OK }

// hint returns what a beacon says about the time.
func (h *hearing) hint(told api.Beacon) api.TimeHint {
	return api.TimeHint{From: told.From, Hops: told.Hops, Bound: told.Bound, ASN: h.caught.ASN, Local: h.local}
}

// beacon handles a beacon; it is never acknowledged.
func (h *hearing) beacon() bool {
	told, err := beacon.Decode(h.caught.Body)
	if err != api.OK || told.From != h.caught.From || told.ASN != h.caught.ASN {
		return false
	}
	switch {
	case isMember(h.Node):
		h.neighbour(told)
	case h.Join.Phase == api.JoinOut:
		h.approach(told)
	case h.Join.Sponsor == told.From:
		h.answer(told)
	}
	return false
}

// neighbour lets a member hear a beacon.
func (h *hearing) neighbour(told api.Beacon) {
	if h.place() != told.From || !h.opened(h.Ring) {
		return
	}
	near, err := beacon.Note(h.Near, told, h.frame())
	if err != api.OK {
		return
	}
	h.Near = near
	h.Time, _ = timesync.Hear(h.Time, h.hint(told))
	h.Fresh = max(h.Fresh, told.Fresh)
	h.Ring = keyring.Learn(h.Ring, told.Ring, h.asn)
	if told.Parent == h.ID {
		if below, err := down.Learn(h.Below, told.From, h.frame(), told.Below, h.frame()); err == api.OK {
			h.Below = below
		}
	}
	h.Spread = spread.Hear(h.Spread, told.Notice, told.Pages, h.frame())
	if told.Has {
		h.Spread, _ = spread.Receive(h.Spread, told.Block)
	}
	h.letters(told)
}

// letters takes over the mail of the parent, and leaves out what a child has taken over.
func (h *hearing) letters(told api.Beacon) {
	if told.From == h.Route.Parent {
		for _, w := range told.Mail {
			_, below := down.Next(h.Below, w.Sponsor)
			if w.Sponsor != h.ID && !below {
				continue
			}
			h.post(w)
			if !slices.Contains(h.Got, w.Stranger) {
				h.Got = append(h.Got, w.Stranger)
			}
		}
	}
	if told.Parent == h.ID {
		h.Mail = slices.DeleteFunc(h.Mail, func(w api.Word) bool {
			return w.Sponsor != h.ID && slices.Contains(told.Got, w.Stranger)
		})
	}
}

// approach lets a stranger that is out ask the sender of a beacon.
func (h *hearing) approach(told api.Beacon) {
	time, err := timesync.Hear(timesync.Start(false), h.hint(told))
	if err != api.OK {
		return
	}
	asked, word, err := join.Ask(h.Join, h.ID, h.Boot, told.From, h.frameOf(told.ASN))
	if err != api.OK {
		return
	}
	h.Time, h.Join, h.Mail = time, asked, []api.Word{word}
}

// answer lets a stranger hear a beacon of its sponsor.
func (h *hearing) answer(told api.Beacon) {
	h.Time, _ = timesync.Hear(h.Time, h.hint(told))
	for _, w := range told.Words {
		next, reply, ok := join.Hear(h.Join, h.ID, w, h.frameOf(told.ASN))
		switch {
		case !ok:
			continue
		case w.Kind == api.WordChallenge:
			h.Join, h.Mail = next, []api.Word{reply}
		case h.welcome(told, w):
			h.Join = next
			return
		}
	}
}

// welcome makes the stranger know what a welcome says, if its frame is sealed as the word says; otherwise it returns false.
func (h *hearing) welcome(told api.Beacon, w api.Word) bool {
	time, err := timesync.Hear(timesync.Start(false), h.hint(told))
	if err != api.OK || h.place() != told.From || !h.opened(w.Ring) {
		return false
	}
	h.Time, h.Ring, h.Mail, h.Fresh = time, w.Ring, nil, told.Fresh
	if near, err := beacon.Note(nil, told, h.frame()); err == api.OK {
		h.Near = near
	}
	return true
}

// request lets a member hear a word of a stranger; it is never acknowledged.
func (h *hearing) request() bool {
	told, err := beacon.Decode(h.caught.Body)
	if err != api.OK || !isMember(h.Node) || h.caught.To != h.ID || told.From != h.caught.From {
		return false
	}
	if len(told.Words) != 1 || told.Words[0].Stranger != told.From {
		return false
	}
	if half, err := sponsor.Hear(h.Half, h.ID, told.Words[0], h.frame()); err == api.OK {
		h.Half = half
	}
	return false
}

// data lets a member hear a reading.
func (h *hearing) data() bool {
	r, ok := readingOf(h.caught.Body)
	if !ok || !isMember(h.Node) || h.caught.To != h.ID || !h.opened(h.Ring) {
		return false
	}
	if h.isRoot() {
		return h.arrive(r)
	}
	err := h.put(r)
	return err == api.OK || err == api.ErrTwice
}

// arrive lets the root receive a reading.
func (h *hearing) arrive(r api.Reading) bool {
	lists, fresh, err := seen.Add(h.Seen, r.Origin, r.Number)
	if err != api.OK || !fresh {
		return err == api.OK
	}
	h.Seen = lists
	if r.Kind == api.ReadValue {
		h.Queue.List = append(h.Queue.List, r)
		return true
	}
	h.judge(api.Word{Kind: api.WordProof, Stranger: r.Value % nonceUnit, Sponsor: r.Origin, Nonce: r.Value / nonceUnit, Key: r.At})
	return true
}

// sent counts a frame with a reading that was sent, and gives the reading away if it was acknowledged.
func (w *worker) sent(f api.Frame, acked bool) {
	if links, err := link.Count(w.Links, f.To, acked); err == api.OK {
		w.Links = links
	}
	r, ok := readingOf(f.Body)
	if !acked || !ok {
		return
	}
	w.Queue = queue.Drop(w.Queue, r.Origin, r.Number)
	memories, err := custody.Give(w.Store, w.ID, r.Origin, r.Number)
	w.Store = last(w.Store, memories, err)
}

// readingOf returns the reading of a body, if it can be read.
func readingOf(body []byte) (api.Reading, bool) {
	at, ok := 0, true
	number := func(low, high int) int {
		n, next, err := wire.Number(body, at)
		ok = ok && err == api.OK && low <= n && n <= high
		at = next
		return n
	}
	r := api.Reading{
		Origin: number(0, api.MaxNodes-1),
		Number: number(1, api.MaxNumber),
		Kind:   number(api.ReadValue, api.ReadJoin),
		Value:  number(0, api.MaxTime),
		At:     number(0, api.MaxASN),
	}
	return r, ok && at == len(body)
}
