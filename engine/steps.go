package engine

import (
	"stratigraph/api"
	"stratigraph/dedup"
	"stratigraph/index"
	"stratigraph/span"
	"stratigraph/stamp"
)

// Hold returns the cell whose shard id accepts no writes while the snapshot lease is opened.
func Hold(c api.Cell, id int, epoch int, lease int) (api.Cell, bool) {
	if !Right(c) || !fromOne(id, epoch, lease) {
		return c, false
	}
	s, there := find(c, id)
	if !there || s.Epoch != epoch || s.Phase != api.Serving || s.Seen >= lease || s.Hold != 0 && s.Hold != lease {
		return c, false
	}
	s.Hold = lease
	return with(c, s), true
}

// Free returns the cell whose shard id accepts writes again, later than the stamp at of the snapshot lease.
func Free(c api.Cell, id int, lease int, at api.Stamp) (api.Cell, bool) {
	if !Right(c) || !fromOne(id, lease) || !stamp.Right(at) {
		return c, false
	}
	s, there := find(c, id)
	switch {
	case !there:
		return c, false
	case s.Seen >= lease:
		return c, true
	}
	s.Seen = lease
	if s.Hold == lease {
		s.Hold = 0
	}
	c.Top = stamp.Later(c.Top, at)
	return with(c, s), true
}

// Freeze returns the cell whose shard id is on its way out.
func Freeze(c api.Cell, id int, epoch int, move int) (api.Cell, bool) {
	if !Right(c) || !fromOne(id, epoch, move) {
		return c, false
	}
	s, there := find(c, id)
	switch {
	case there && isBy(s, api.Frozen, move):
		return c, true
	case !there || s.Epoch != epoch || !settled(s) || s.Closed >= move:
		return c, false
	}
	s.Phase, s.Move, s.Top = api.Frozen, move, c.Top
	return with(c, s), true
}

// Thaw returns the cell in which the move of the shard id is finished without having taken it away.
func Thaw(c api.Cell, id int, move int) (api.Cell, bool) {
	if !Right(c) || !fromOne(id, move) {
		return c, false
	}
	s, there := find(c, id)
	switch {
	case !there:
		return c, false
	case s.Closed >= move || s.Phase == api.Frozen && s.Move != move:
		return c, true
	}
	s.Closed = move
	if s.Phase == api.Frozen {
		s.Phase = api.Serving
	}
	return with(c, s), true
}

// Retire returns the cell without the shard id, which the move has taken away.
func Retire(c api.Cell, id int, move int) (api.Cell, bool) {
	if !Right(c) || !fromOne(id, move) {
		return c, false
	}
	s, there := find(c, id)
	switch {
	case !there:
		return c, true
	case !isBy(s, api.Frozen, move):
		return c, false
	}
	return without(c, id), true
}

// Install returns the cell with the shard s, which was frozen elsewhere and does not serve here yet.
func Install(c api.Cell, s api.Shard, move int) (api.Cell, bool) {
	if !Right(c) || !fromOne(move) {
		return c, false
	}
	other, there := find(c, s.ID)
	switch {
	case there && isBy(other, api.Ready, move):
		return c, true
	case there || move <= c.Dropped || len(c.Shards) == api.MaxShards:
		return c, false
	case !RightShard(s) || !isBy(s, api.Frozen, move) || !endsBy(s.Entries, s.Top):
		return c, false
	}
	s.Phase = api.Ready
	c.Top = stamp.Later(c.Top, s.Top)
	return with(c, s), true
}

// Serve returns the cell whose shard id, which the move has brought in, serves.
func Serve(c api.Cell, id int, move int, epoch int) (api.Cell, bool) {
	if !Right(c) || !fromOne(id, move, epoch) {
		return c, false
	}
	s, there := find(c, id)
	switch {
	case there && s.Phase == api.Serving && s.Epoch == epoch && s.Closed == move:
		return c, true
	case !there || !isBy(s, api.Ready, move) || epoch <= s.Epoch:
		return c, false
	}
	s.Phase, s.Epoch, s.Closed = api.Serving, epoch, move
	c.Dropped = max(c.Dropped, move)
	return with(c, s), true
}

// Drop returns the cell in which the move no longer installs the shard id, without the shard if the move has brought it in.
func Drop(c api.Cell, id int, move int) (api.Cell, bool) {
	if !Right(c) || !fromOne(id, move) {
		return c, false
	}
	c.Dropped = max(c.Dropped, move)
	if s, there := find(c, id); there && isBy(s, api.Ready, move) {
		return without(c, id), true
	}
	return own(c), true
}

// Split returns the cell in which the keys of the shard id from at on belong to the new shard other.
func Split(c api.Cell, id int, epoch int, at string, other int, next int) (api.Cell, bool) {
	if !Right(c) || !fromOne(id, epoch, other, next) {
		return c, false
	}
	s, there := find(c, id)
	o, taken := find(c, other)
	switch {
	case there && s.Epoch == next && s.Span.Hi == at && taken && o.Epoch == next:
		return c, true
	case !there || s.Epoch != epoch || !settled(s) || s.Closed >= next || next <= epoch:
		return c, false
	case taken || len(c.Shards) == api.MaxShards:
		return c, false
	}
	below, above, err := span.Cut(s.Span, at)
	if err != api.OK {
		return c, false
	}
	s.Epoch = next
	low, high := s, s
	high.ID = other
	low.Span, high.Span = below, above
	low.Entries, high.Entries = index.Cut(s.Entries, at)
	return with(with(c, low), high), true
}

// Merge returns the cell in which the keys of the shard other, which follow those of the shard id, belong to that one.
func Merge(c api.Cell, id int, other int, epoch int, next int) (api.Cell, bool) {
	if !Right(c) || !fromOne(id, other, epoch, next) {
		return c, false
	}
	a, there := find(c, id)
	b, otherThere := find(c, other)
	switch {
	case there && a.Epoch == next && !otherThere:
		return c, true
	case !there || !otherThere || !settled(a) || !settled(b):
		return c, false
	case a.Epoch != epoch || next <= max(a.Epoch, b.Epoch, a.Closed):
		return c, false
	}
	s, ok := joined(a, b)
	if !ok {
		return c, false
	}
	s.Epoch = next
	return with(without(c, other), s), true
}

// joined returns a with what b has, and whether there can be such a shard.
func joined(a api.Shard, b api.Shard) (api.Shard, bool) {
	keys, noSpan := span.Join(a.Span, b.Span)
	entries, noIndex := index.Join(a.Entries, b.Entries)
	done, noTable := dedup.Merge(a.Done, b.Done)
	if noSpan != api.OK || noIndex != api.OK || noTable != api.OK {
		return api.Shard{}, false
	}
	a.Span, a.Done = keys, done
	a.Mark = stamp.Later(a.Mark, b.Mark)
	a.Entries = index.Prune(entries, a.Mark)
	a.Seen = max(a.Seen, b.Seen)
	a.Closed = max(a.Closed, b.Closed)
	a.Move = 0
	return a, true
}

// Raise returns the cell that knows the stamp s, so that further stamps are later.
func Raise(c api.Cell, s api.Stamp) api.Cell {
	if !Right(c) || !stamp.Right(s) {
		return c
	}
	c.Top = stamp.Later(c.Top, s)
	return own(c)
}

// Prune returns the cell without the versions that nobody reads from mark on.
func Prune(c api.Cell, mark api.Stamp) api.Cell {
	if !Right(c) || !stamp.Right(mark) {
		return c
	}
	c = own(c)
	for i, s := range c.Shards {
		c.Shards[i].Entries = index.Prune(s.Entries, mark)
		c.Shards[i].Mark = stamp.Later(s.Mark, mark)
	}
	return c
}

// isBy reports whether s is in this phase by this move.
func isBy(s api.Shard, phase int, move int) bool {
	return s.Phase == phase && s.Move == move
}

// settled reports whether s serves, and no snapshot that is being opened holds it.
func settled(s api.Shard) bool {
	return s.Phase == api.Serving && s.Hold == 0
}
