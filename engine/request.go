package engine

import (
	"stratigraph/api"
	"stratigraph/dedup"
	"stratigraph/index"
	"stratigraph/key"
	"stratigraph/span"
	"stratigraph/stamp"
)

// Do executes the request r on the shard id, and returns the cell after it and the answer.
func Do(c api.Cell, id int, epoch int, r api.Request, now api.Stamp, wall int) (api.Cell, api.Answer) {
	if !Right(c) || !fromOne(id, epoch) || !stamp.Right(now) || !RightRequest(r) || !fromZero(wall) {
		return c, refusal(api.ErrArg)
	}
	s, there := find(c, id)
	switch {
	case !there || s.Epoch != epoch || !covers(s.Span, r.Key):
		return c, refusal(api.ErrStale)
	case s.Phase != api.Serving || writes(r) && s.Hold != 0:
		return c, refusal(api.ErrBusy)
	case writes(r):
		return write(c, s, r, now)
	case r.Kind == api.Get:
		return c, get(s, r.Key, c.Top)
	}
	return readAt(c, s, r, wall)
}

func refusal(err api.Errno) api.Answer {
	return api.Answer{Err: err}
}

func writes(r api.Request) bool {
	return r.Kind == api.Put || r.Kind == api.Delete || r.Kind == api.Swap
}

// covers reports whether s is where k is asked for. The empty string, from which a page may begin, precedes all keys, so that only the first span has it.
func covers(s api.Span, k string) bool {
	return span.Has(s, k) || k == "" && s.Lo == ""
}

// write executes a write, unless it has been executed before.
func write(c api.Cell, s api.Shard, r api.Request, now api.Stamp) (api.Cell, api.Answer) {
	switch dedup.Judge(s.Done, r.Client, r.Req) {
	case dedup.Same:
		d, _ := dedup.Told(s.Done, r.Client)
		return c, d.Answer
	case dedup.Old:
		return c, refusal(api.ErrStale)
	}
	if stamp.Compare(now, c.Top) <= 0 {
		return c, refusal(api.ErrArg)
	}
	value, found := valueAt(s, r.Key, c.Top)
	a := api.Answer{At: now, Found: found}
	err := api.OK
	switch {
	case fails(r, value, found):
		a.Err, a.Value = api.ErrClash, value
	case r.Kind != api.Delete:
		s.Entries, err = index.Put(s.Entries, r.Key, api.Version{At: now, Value: r.Value})
	case found:
		s.Entries, err = index.Put(s.Entries, r.Key, api.Version{At: now, Gone: true})
	}
	if err == api.OK {
		s.Done, err = dedup.Put(s.Done, api.Done{Client: r.Client, Req: r.Req, Answer: a})
	}
	if err != api.OK {
		return c, refusal(err)
	}
	c.Top = now
	return with(c, s), a
}

// valueAt returns the value that k has at this stamp, and whether it has one there.
func valueAt(s api.Shard, k string, at api.Stamp) (string, bool) {
	v, there := index.Read(s.Entries, k, at)
	return v.Value, there && !v.Gone
}

// fails reports whether r is a Swap that expects something else than the value that was found.
func fails(r api.Request, value string, found bool) bool {
	return r.Kind == api.Swap && (found != r.Had || found && value != r.Old)
}

// get tells the last version of k, of which those who read it later may ask by its stamp.
func get(s api.Shard, k string, top api.Stamp) api.Answer {
	v, there := index.Read(s.Entries, k, top)
	return api.Answer{At: v.At, Found: there && !v.Gone, Value: v.Value}
}

// readAt tells what was at the stamp of r. No later write may have a stamp up to it, since it would change what was told.
func readAt(c api.Cell, s api.Shard, r api.Request, wall int) (api.Cell, api.Answer) {
	switch {
	case stamp.Compare(r.At, s.Mark) < 0:
		return c, refusal(api.ErrExpired)
	case r.At.Wall-wall > api.Skew:
		return c, refusal(api.ErrSkew)
	}
	c.Top = stamp.Later(c.Top, r.At)
	if r.Kind == api.Page {
		return own(c), page(s, r)
	}
	a := api.Answer{At: r.At}
	a.Value, a.Found = valueAt(s, r.Key, r.At)
	return own(c), a
}

// page tells the keys that s has of those that r asks for, and that there are more where r asks for keys behind the end of s.
func page(s api.Shard, r api.Request) api.Answer {
	a := api.Answer{At: r.At}
	// The keys of s precede the end of its span anyway, so that r.Hi is the only bound that tells.
	a.Items, a.Next, a.More = index.Page(s.Entries, r.Key, r.Hi, r.At, r.Limit)
	if !a.More && endsBefore(s.Span.Hi, r.Hi) {
		a.Next, a.More = s.Span.Hi, true
	}
	return a
}

// endsBefore reports whether the upper bound hi is less than other, where an empty one is none.
func endsBefore(hi string, other string) bool {
	return hi != "" && (other == "" || key.Compare(hi, other) < 0)
}
