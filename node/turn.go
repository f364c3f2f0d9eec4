package node

import (
	"slices"

	"slotmesh/api"
	"slotmesh/bargain"
	"slotmesh/beacon"
	"slotmesh/boot"
	"slotmesh/claims"
	"slotmesh/down"
	"slotmesh/duty"
	"slotmesh/image"
	"slotmesh/join"
	"slotmesh/keyring"
	"slotmesh/link"
	"slotmesh/rank"
	"slotmesh/sponsor"
	"slotmesh/timesync"
)

const (
	idleFrames = 4  // that have passed, as far as duty is concerned, if nothing waits
	renewal    = 8  // frames after which the root takes a new sequence number
	trial      = 16 // frames in which a program has to hear the root
)

// Turn returns a node after the last beacon slot of a frame.
func Turn(n api.Node, l api.Layout, asn int) api.Node {
	w := open(n, l, asn)
	shown, err := w.shown()
	if !n.Up || !validLayout(l) || err != api.OK {
		return w.Node
	}
	steps := [...]func(*worker){(*worker).yield, (*worker).passProofs, (*worker).choose, (*worker).grant, (*worker).giveBack, (*worker).ask}
	switch {
	case !isMember(n):
		w.wait()
	case w.remain(shown):
		for _, step := range steps {
			step(w)
		}
	}
	w.programs()
	return w.Node
}

// wait lets a stranger give up a question that is not answered.
func (w *worker) wait() {
	was := w.Join.Phase
	w.Join = join.Late(w.Join, w.frame())
	if w.Join.Phase == api.JoinOut && was != api.JoinOut {
		w.Time, w.Mail = timesync.Start(false), nil
	}
}

// remain keeps time and keys, and reports whether the node is still a member.
func (w *worker) remain(shown int) bool {
	w.Near = beacon.Expire(w.Near, w.frame())
	if w.isRoot() {
		w.Ring, w.Fresh = keyring.Root(w.asn), w.frame()
		return true
	}
	w.Time, w.Ring = timesync.Tick(w.Time, shown), keyring.Age(w.Ring, w.asn)
	epoch, err := keyring.Epoch(w.asn)
	if !w.Time.Synced || err != api.OK || !keyring.Knows(w.Ring, epoch) {
		w.estrange()
		return false
	}
	return true
}

// yield gives up cells.
func (w *worker) yield() { w.Table = claims.Yield(w.Table, w.ID, w.Near, w.frame()) }

// passProofs passes the proofs of strangers on to the root.
func (w *worker) passProofs() {
	w.Half = sponsor.Expire(w.Half, w.frame())
	for _, proof := range sponsor.Proofs(w.Half, w.ID) {
		if w.isRoot() {
			w.judge(proof)
		} else if w.putOwn(api.ReadJoin, nonceUnit*proof.Nonce+proof.Stranger, proof.Key) != api.OK {
			continue
		}
		w.Half = slices.DeleteFunc(w.Half, func(h api.Half) bool { return h.Stranger == proof.Stranger })
	}
}

// choose chooses the route.
func (w *worker) choose() {
	if w.isRoot() {
		w.Route = rank.Renew(w.Route, w.frame()/renewal+1)
		return
	}
	var offers []api.Offer
	for _, n := range w.Near {
		offers = append(offers, api.Offer{Peer: n.Told.From, Told: n.Told.Route, Cost: link.Cost(w.Links, n.Told.From)})
	}
	w.Route = rank.Choose(w.Route, offers)
}

// grant lets routes downward expire, and grants cells.
func (w *worker) grant() {
	w.Below = down.Expire(w.Below, w.frame())
	w.Table = bargain.Grant(w.layout, w.Table, w.ID, w.Near, w.frame())
}

func (w *worker) waiting() int { return len(w.Queue.List) }

// giveBack leaves out the uses to others than the parent, and those that are spare.
func (w *worker) giveBack() {
	uses := slices.DeleteFunc(w.Table.Uses, func(u api.Use) bool { return u.Peer != w.Route.Parent })
	idle := 0
	if w.waiting() == 0 {
		idle = idleFrames
	}
	w.Table.Uses = uses[:len(uses)-duty.Spare(w.waiting(), len(uses), idle)]
}

// ask asks the parent for cells.
func (w *worker) ask() {
	parent := w.Route.Parent
	told, _ := beacon.Of(w.Near, parent)
	many := duty.Need(w.waiting(), len(w.Table.Uses), told.Full)
	w.Table = bargain.Ask(w.layout, w.Table, w.ID, w.Near, parent, many, w.frame())
}

// programs installs a program that is loaded, and starts, keeps or drops programs.
func (w *worker) programs() {
	version := w.Spread.Notice.Version
	w.install(version)
	switch {
	case boot.Marks(w.Program, version) == 0 && w.Spread.Notice.Start <= w.asn && version > w.Runs:
		w.mark(version, api.MarkStart)
		w.run()
		w.Kept = false
	case w.Kept:
		return
	case w.Fresh > w.Since:
		w.mark(w.Runs, api.MarkKeep)
		w.Kept = true
	case w.Since <= w.frame()-trial:
		w.mark(w.Runs, api.MarkDrop)
		w.run()
	}
}

// install installs the program with a version, if it is whole and not there. A program that is
// not kept yet must not displace the one to which the node would go back.
func (w *worker) install(version int) {
	if !w.Kept || boot.Marks(w.Program, version) != -1 {
		return
	}
	if program, ok := image.Whole(w.Spread); ok {
		memories, err := boot.Install(w.Program, version, program)
		w.Program = last(w.Program, memories, err)
	}
}

func (w *worker) mark(version, mark int) {
	memories, err := boot.Mark(w.Program, version, mark)
	w.Program = last(w.Program, memories, err)
}

// run runs the program that is selected.
func (w *worker) run() {
	if version, _, err := boot.Select(w.Program); err == api.OK {
		w.Runs = version
	}
	w.Since, w.Kept = w.frame(), boot.Marks(w.Program, w.Runs) >= api.MarkKeep
}
