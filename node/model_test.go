package node_test

import (
	"bytes"
	"reflect"
	"slices"

	"slotmesh/api"
	"slotmesh/bargain"
	"slotmesh/beacon"
	"slotmesh/boot"
	"slotmesh/claims"
	"slotmesh/clock"
	"slotmesh/copies"
	"slotmesh/custody"
	"slotmesh/down"
	"slotmesh/duty"
	"slotmesh/image"
	"slotmesh/join"
	"slotmesh/keyring"
	"slotmesh/link"
	"slotmesh/queue"
	"slotmesh/rank"
	"slotmesh/seal"
	"slotmesh/seen"
	"slotmesh/sponsor"
	"slotmesh/spread"
	"slotmesh/timesync"
	"slotmesh/wire"
)

// The functions of this file say once more what layer 41 does, sentence by sentence, so that both can be compared.

func sameFlash(a, b api.Flash) bool { return a.Sector == b.Sector && bytes.Equal(a.Bytes, b.Bytes) }

// equal compares values in which a nil slice and an empty one are the same.
func equal(a, b reflect.Value) bool {
	switch a.Kind() {
	case reflect.Struct:
		for i := range a.NumField() {
			if !equal(a.Field(i), b.Field(i)) {
				return false
			}
		}
		return true
	case reflect.Slice:
		if a.Type().Elem().Kind() == reflect.Uint8 {
			return bytes.Equal(a.Bytes(), b.Bytes())
		}
		if a.Len() != b.Len() {
			return false
		}
		for i := range a.Len() {
			if !equal(a.Index(i), b.Index(i)) {
				return false
			}
		}
		return true
	}
	return a.Interface() == b.Interface()
}

func sameValue[T any](a, b T) bool { return equal(reflect.ValueOf(a), reflect.ValueOf(b)) }

func same(a, b api.Node) bool { return sameValue(a, b) }

func okLayout(l api.Layout) bool {
	return l.Nodes >= 1 && l.Nodes <= 60 && l.Data >= 1 && l.Data <= 60
}

func length(l api.Layout) int { return l.Nodes + l.Data + 1 }

func member(n api.Node) bool { return n.Up && n.Join.Phase == api.JoinIn }

func stranger(n api.Node) api.Node {
	n.Time = timesync.Start(false)
	n.Fresh, n.Ring = 0, api.Ring{}
	n.Join = api.Join{Sponsor: -1, Tries: n.Join.Tries}
	n.Table, n.Half, n.Near, n.Links, n.Below, n.Mail, n.Got = api.Table{}, nil, nil, nil, nil, nil, nil
	n.Route = rank.Start(false, n.Route.Own.Seq)
	return n
}

func putting(n api.Node, r api.Reading) (api.Node, api.Errno) {
	q, e1 := queue.Put(n.Queue, r, n.ID)
	l, e2 := custody.Take(n.Store, n.ID, r)
	if e1 != api.OK {
		return n, e1
	}
	if e2 != api.OK {
		return n, e2
	}
	n.Queue, n.Store = q, l[len(l)-1]
	return n, api.OK
}

func mailed(n api.Node, w api.Word) api.Node {
	n.Mail = slices.Clone(n.Mail)
	for _, x := range n.Mail {
		if x == w {
			return n
		}
	}
	n.Mail = append(n.Mail, w)
	if len(n.Mail) > 8 {
		n.Mail = n.Mail[1:]
	}
	return n
}

func judged(n api.Node, w api.Word) api.Node {
	if x, e := join.Judge(w, n.Ring); e == api.OK {
		return mailed(n, x)
	}
	return n
}

func reading(body []byte) (api.Reading, bool) {
	var x [5]int
	at := 0
	for i := range x {
		var e api.Errno
		if x[i], at, e = wire.Number(body, at); e != api.OK {
			return api.Reading{}, false
		}
	}
	r := api.Reading{Origin: x[0], Number: x[1], Kind: x[2], Value: x[3], At: x[4]}
	good := at == len(body) && r.Origin >= 0 && r.Origin <= 59 && r.Number >= 1 && r.Number <= 1000000000 && (r.Kind == 0 || r.Kind == 1) && r.Value >= 0 && r.Value <= 10000000000000 && r.At >= 0 && r.At <= 1000000000
	return r, good
}

func modelHear(n api.Node, l api.Layout, f api.Frame, asn, local int) (api.Node, bool) {
	n = copies.Node(n)
	if !n.Up || !okLayout(l) || asn < 0 || asn > 1000000000 || f.From < 0 || f.From >= l.Nodes || f.From == n.ID {
		return n, false
	}
	fr, place := asn/length(l), asn%length(l)
	b, e := beacon.Decode(f.Body)
	hint := api.TimeHint{From: b.From, Hops: b.Hops, Bound: b.Bound, ASN: f.ASN, Local: local}
	isBeacon := f.Kind == api.FrameBeacon && e == api.OK && b.From == f.From
	switch {
	case isBeacon && member(n):
		near, e := beacon.Note(n.Near, b, fr)
		if place != f.From || seal.Open(f, n.Ring, asn) != api.OK || b.ASN != asn || e != api.OK {
			return n, false
		}
		n.Near = near
		n.Time, _ = timesync.Hear(n.Time, hint)
		if b.Fresh > n.Fresh {
			n.Fresh = b.Fresh
		}
		n.Ring = keyring.Learn(n.Ring, b.Ring, asn)
		if b.Parent == n.ID {
			if x, e := down.Learn(n.Below, b.From, fr, b.Below, fr); e == api.OK {
				n.Below = x
			}
		}
		n.Spread = spread.Hear(n.Spread, b.Notice, b.Pages, fr)
		if b.Has {
			n.Spread, _ = spread.Receive(n.Spread, b.Block)
		}
		if f.From == n.Route.Parent {
			for _, w := range b.Mail {
				if _, ok := down.Next(n.Below, w.Sponsor); w.Sponsor == n.ID || ok {
					n = mailed(n, w)
					if !slices.Contains(n.Got, w.Stranger) {
						n.Got = append(n.Got, w.Stranger)
					}
				}
			}
		}
		if b.Parent == n.ID {
			var rest []api.Word
			for _, w := range n.Mail {
				if w.Sponsor == n.ID || !slices.Contains(b.Got, w.Stranger) {
					rest = append(rest, w)
				}
			}
			n.Mail = rest
		}
	case isBeacon && b.ASN == f.ASN && n.Join.Phase == api.JoinOut:
		time, e1 := timesync.Hear(timesync.Start(false), hint)
		j, w, e2 := join.Ask(n.Join, n.ID, n.Boot, b.From, b.ASN/length(l))
		if e1 == api.OK && e2 == api.OK {
			n.Time, n.Join, n.Mail = time, j, []api.Word{w}
		}
	case isBeacon && b.ASN == f.ASN && b.From == n.Join.Sponsor:
		n.Time, _ = timesync.Hear(n.Time, hint)
		for _, w := range b.Words {
			j, answer, ok := join.Hear(n.Join, n.ID, w, b.ASN/length(l))
			if !ok {
				continue
			}
			if w.Kind == api.WordChallenge {
				n.Join, n.Mail = j, []api.Word{answer}
			}
			time, e := timesync.Hear(timesync.Start(false), hint)
			if w.Kind == api.WordWelcome && place == f.From && f.ASN == asn && seal.Open(f, w.Ring, asn) == api.OK && e == api.OK {
				n.Time, n.Ring, n.Join, n.Mail, n.Fresh = time, w.Ring, j, nil, b.Fresh
				n.Near, _ = beacon.Note(nil, b, fr)
				break
			}
		}
	case f.Kind == api.FrameData && member(n) && f.To == n.ID && seal.Open(f, n.Ring, asn) == api.OK:
		r, ok := reading(f.Body)
		if !ok {
			return n, false
		}
		if n.ID != 0 {
			x, e := putting(n, r)
			return x, e == api.OK || e == api.ErrTwice
		}
		l, fresh, e := seen.Add(n.Seen, r.Origin, r.Number)
		if e != api.OK {
			return n, false
		}
		if fresh {
			n.Seen = l
			if r.Kind == api.ReadValue {
				n.Queue.List = append(n.Queue.List, r)
			} else {
				n = judged(n, api.Word{Kind: api.WordProof, Stranger: r.Value % 64, Sponsor: r.Origin, Nonce: r.Value / 64, Key: r.At})
			}
		}
		return n, true
	case f.Kind == api.FrameJoin && member(n) && f.To == n.ID && e == api.OK && b.From == f.From && len(b.Words) == 1 && b.Words[0].Stranger == f.From:
		if x, e := sponsor.Hear(n.Half, n.ID, b.Words[0], fr); e == api.OK {
			n.Half = x
		}
	}
	return n, false
}

func modelAcked(n api.Node, f api.Frame, acked bool) api.Node {
	n = copies.Node(n)
	if !member(n) || f.Kind != api.FrameData {
		return n
	}
	if x, e := link.Count(n.Links, f.To, acked); e == api.OK {
		n.Links = x
	}
	if r, ok := reading(f.Body); ok && acked {
		n.Queue = queue.Drop(n.Queue, r.Origin, r.Number)
		if x, e := custody.Give(n.Store, n.ID, r.Origin, r.Number); e == api.OK {
			n.Store = x[len(x)-1]
		}
	}
	return n
}

func modelTurn(n api.Node, l api.Layout, asn int) api.Node {
	n = copies.Node(n)
	if !n.Up || !okLayout(l) || asn < 0 || asn > 1000000000 {
		return n
	}
	shown, e := clock.Show(n.Clock, 10000*asn)
	if e != api.OK {
		return n
	}
	fr := asn / length(l)
	if !member(n) {
		was := n.Join.Phase
		n.Join = join.Late(n.Join, fr)
		if n.Join.Phase == api.JoinOut && was != api.JoinOut {
			n.Time, n.Mail = timesync.Start(false), nil
		}
		return modelPrograms(n, fr, asn)
	}
	n.Near = beacon.Expire(n.Near, fr)
	if n.ID == 0 {
		n.Ring, n.Fresh = keyring.Root(asn), fr
	} else {
		n.Time = timesync.Tick(n.Time, shown)
		n.Ring = keyring.Age(n.Ring, asn)
		if !n.Time.Synced || !keyring.Knows(n.Ring, asn/2000) {
			return modelPrograms(stranger(n), fr, asn)
		}
	}
	n.Table = claims.Yield(n.Table, n.ID, n.Near, fr)
	n.Half = sponsor.Expire(n.Half, fr)
	for _, p := range sponsor.Proofs(n.Half, n.ID) {
		ok := true
		if n.ID == 0 {
			n = judged(n, p)
		} else {
			x, e := putting(n, api.Reading{Origin: n.ID, Number: n.Number + 1, Kind: api.ReadJoin, Value: 64*p.Nonce + p.Stranger, At: p.Key})
			if ok = e == api.OK; ok {
				n = x
				n.Number++
			}
		}
		if ok {
			var rest []api.Half
			for _, h := range n.Half {
				if h.Stranger != p.Stranger {
					rest = append(rest, h)
				}
			}
			n.Half = rest
		}
	}
	if n.ID == 0 {
		n.Route = rank.Renew(n.Route, fr/8+1)
	} else {
		var offers []api.Offer
		for _, x := range n.Near {
			offers = append(offers, api.Offer{Peer: x.Told.From, Told: x.Told.Route, Cost: link.Cost(n.Links, x.Told.From)})
		}
		n.Route = rank.Choose(n.Route, offers)
	}
	n.Below = down.Expire(n.Below, fr)
	n.Table = bargain.Grant(l, n.Table, n.ID, n.Near, fr)
	var uses []api.Use
	for _, u := range n.Table.Uses {
		if u.Peer == n.Route.Parent {
			uses = append(uses, u)
		}
	}
	waiting, idle := len(n.Queue.List), 0
	if waiting == 0 {
		idle = 4
	}
	n.Table.Uses = uses[:len(uses)-duty.Spare(waiting, len(uses), idle)]
	parent, _ := beacon.Of(n.Near, n.Route.Parent)
	n.Table = bargain.Ask(l, n.Table, n.ID, n.Near, n.Route.Parent, duty.Need(waiting, len(n.Table.Uses), parent.Full), fr)
	return modelPrograms(n, fr, asn)
}

func modelPrograms(n api.Node, fr, asn int) api.Node {
	v := n.Spread.Notice.Version
	set := func(l []api.Flash, e api.Errno) {
		if e == api.OK {
			n.Program = l[len(l)-1]
		}
	}
	choose := func() {
		if x, _, e := boot.Select(n.Program); e == api.OK {
			n.Runs = x
		}
	}
	if program, ok := image.Whole(n.Spread); ok && n.Kept && boot.Marks(n.Program, v) == -1 {
		set(boot.Install(n.Program, v, program))
	}
	if boot.Marks(n.Program, v) == 0 && n.Spread.Notice.Start <= asn && v > n.Runs {
		set(boot.Mark(n.Program, v, api.MarkStart))
		choose()
		n.Since, n.Kept = fr, false
		return n
	}
	if !n.Kept && n.Fresh > n.Since {
		set(boot.Mark(n.Program, n.Runs, api.MarkKeep))
		n.Kept = true
		return n
	}
	if !n.Kept && fr-16 >= n.Since {
		set(boot.Mark(n.Program, n.Runs, api.MarkDrop))
		choose()
		n.Since, n.Kept = fr, boot.Marks(n.Program, n.Runs) >= api.MarkKeep
	}
	return n
}

func modelTell(n api.Node, l api.Layout, asn int) (api.Node, api.Beacon) {
	n = copies.Node(n)
	if !member(n) || !okLayout(l) || asn < 0 || asn > 1000000000 {
		return n, api.Beacon{}
	}
	shown, e1 := clock.Show(n.Clock, 10000*asn)
	bound, e2 := timesync.Bound(n.Time, shown)
	if n.ID != 0 {
		bound += 4
	}
	if e1 != api.OK || e2 != api.OK || bound > 2000 {
		n.Table.Uses = nil
		return n, api.Beacon{}
	}
	fr := asn / length(l)
	n.Table = bargain.Take(l, n.Table, n.ID, n.Near, fr)
	b := api.Beacon{From: n.ID, ASN: asn, Boot: n.Boot, Hops: n.Time.Hops, Bound: bound, Fresh: n.Fresh, Route: n.Route.Own, Parent: n.Route.Parent, Ring: n.Ring, Uses: n.Table.Uses, Grants: n.Table.Grants, Asks: n.Table.Asks}
	if n.ID == 0 {
		b.Fresh = fr
	}
	n.Spread, b.Block, b.Has = spread.Serve(n.Spread, n.Near, fr)
	b.Below, b.Full, b.Got = down.Tell(n.Below), queue.Full(n.Queue), n.Got
	b.Notice, b.Pages, b.Version = n.Spread.Notice, len(n.Spread.Pages), n.Runs
	words := sponsor.Words(n.Half, n.ID)
	var own, others []api.Word
	for _, w := range n.Mail {
		if w.Sponsor == n.ID {
			words = append(words, w)
		}
	}
	first := slices.IndexFunc(n.Mail, func(w api.Word) bool { return w.Sponsor != n.ID })
	for i, w := range n.Mail {
		if i != first {
			own = append(own, w)
		} else {
			others = append(others, w)
		}
	}
	n.Mail = append(own, others...)
	b.Words, b.Mail = words[:min(4, len(words))], others
	n.Got = nil
	return n, copies.Beacon(b)
}
