package node

import (
	"slices"

	"slotmesh/api"
	"slotmesh/bargain"
	"slotmesh/copies"
	"slotmesh/down"
	"slotmesh/queue"
	"slotmesh/sponsor"
	"slotmesh/spread"
	"slotmesh/timesync"
)

// margin is what a node that is not the root adds to its bound: 2 microseconds by which it can
// begin late, and 2 by which its span can grow meanwhile.
const margin = 4

// Tell returns the beacon of a node, and the node afterwards.
func Tell(n api.Node, l api.Layout, asn int) (api.Node, api.Beacon) {
	w := open(n, l, asn)
	if !isMember(n) || !validLayout(l) || !isSlot(asn) {
		return w.Node, api.Beacon{}
	}
	bound, ok := w.told()
	if !ok {
		w.Table.Uses = nil
		return w.Node, api.Beacon{}
	}
	b := w.say(bound)
	return w.Node, b
}

// told returns the bound that the node tells, and whether it is small enough.
func (w *worker) told() (int, bool) {
	shown, err := w.shown()
	if err != api.OK {
		return 0, false
	}
	bound, err := timesync.Bound(w.Time, shown)
	if err != api.OK {
		return 0, false
	}
	if !w.isRoot() {
		bound += margin
	}
	return bound, bound <= api.MaxBound
}

// say takes the cells that were granted, and returns the beacon of the member.
func (w *worker) say(bound int) api.Beacon {
	w.Table = bargain.Take(w.layout, w.Table, w.ID, w.Near, w.frame())
	b := api.Beacon{
		From:    w.ID,
		ASN:     w.asn,
		Boot:    w.Boot,
		Hops:    w.Time.Hops,
		Bound:   bound,
		Fresh:   w.Fresh,
		Route:   w.Route.Own,
		Parent:  w.Route.Parent,
		Ring:    w.Ring,
		Below:   down.Tell(w.Below),
		Full:    queue.Full(w.Queue),
		Words:   w.words(),
		Mail:    w.letter(),
		Got:     w.Got,
		Notice:  w.Spread.Notice,
		Pages:   len(w.Spread.Pages),
		Version: w.Runs,
	}
	if w.isRoot() {
		b.Fresh = w.frame()
	}
	w.Got = nil
	table := copies.Table(w.Table)
	b.Uses, b.Grants, b.Asks = table.Uses, table.Grants, table.Asks
	w.Spread, b.Block, b.Has = spread.Serve(w.Spread, w.Near, w.frame())
	return b
}

// words returns what the node tells strangers.
func (w *worker) words() []api.Word {
	words := sponsor.Words(w.Half, w.ID)
	for _, x := range w.Mail {
		if x.Sponsor == w.ID {
			words = append(words, x)
		}
	}
	return words[:min(len(words), api.MaxHalf)]
}

// letter returns the first word of the mail that is for others, which becomes the last one.
func (w *worker) letter() []api.Word {
	at := slices.IndexFunc(w.Mail, func(x api.Word) bool { return x.Sponsor != w.ID })
	if at < 0 {
		return nil
	}
	first := w.Mail[at]
	w.Mail = append(slices.Delete(w.Mail, at, at+1), first)
	return []api.Word{first}
}
