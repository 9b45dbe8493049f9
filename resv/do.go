package resv

import "drawbar/api"

// Do: a host's command: what is registered and reserved then.
func Do(r api.Resv, h int, c api.Cmd) (api.Resv, api.Errno) {
	if e := refused(r, h, c); e != api.OK {
		return r, e
	}
	switch c.Kind {
	case api.Register:
		return register(r, h, c), api.OK
	case api.Reserve:
		return reserve(r, h, c)
	case api.Release:
		return release(r, h, c)
	case api.Clear:
		return clearAll(r), api.OK
	}
	return preempt(r, h, c)
}

// refused: the error that a command has whatever is reserved.
func refused(r api.Resv, h int, c api.Cmd) api.Errno {
	switch {
	case !isHost(h) || !known(c):
		return api.ErrArg
	case c.Key != r.Keys[h] || c.Key == 0 && c.Kind != api.Register:
		return api.ErrConflict
	}
	return api.OK
}

// known: is it a command of this layer, of a right type, if it is of one?
func known(c api.Cmd) bool {
	switch c.Kind {
	case api.Register, api.Clear:
		return true
	case api.Reserve, api.Release, api.Preempt:
		return Right(c.Type)
	}
	return false
}

func register(r api.Resv, h int, c api.Cmd) api.Resv {
	r.Gen++
	r.Lasts = c.Lasts
	r.Keys[h] = c.New
	if c.New == 0 && (r.Holder == h || r.Keys == None().Keys) {
		return unreserved(r)
	}
	return r
}

func reserve(r api.Resv, h int, c api.Cmd) (api.Resv, api.Errno) {
	switch {
	case r.Type == 0:
		return reserved(r, h, c.Type), api.OK
	case Holds(r, h) && r.Type == c.Type:
		return r, api.OK
	}
	return r, api.ErrConflict
}

func release(r api.Resv, h int, c api.Cmd) (api.Resv, api.Errno) {
	switch {
	case !Holds(r, h):
		return r, api.OK
	case r.Type != c.Type:
		return r, api.ErrArg
	}
	return unreserved(r), api.OK
}

// clearAll: nobody is registered any more.
func clearAll(r api.Resv) api.Resv {
	r.Gen++
	r.Keys = None().Keys
	return unreserved(r)
}

func preempt(r api.Resv, h int, c api.Cmd) (api.Resv, api.Errno) {
	if c.New == 0 && !heldByAll(r.Type) {
		return r, api.ErrArg
	}
	next, found := r, false
	takes := c.New == 0 || r.Holder == h && r.Keys[h] == c.New
	for i, key := range r.Keys {
		if i != h && (key == c.New || c.New == 0) {
			next.Keys[i] = 0
			found = true
			takes = takes || r.Holder == i
		}
	}
	if !found && !takes {
		return r, api.ErrConflict
	}
	next.Gen++
	if takes {
		next = reserved(next, h, c.Type)
	}
	return next, api.OK
}

// reserved: a host has reserved by a type. Unreserved: nothing is reserved.
func reserved(r api.Resv, h int, t byte) api.Resv {
	r.Type, r.Holder = t, h
	if heldByAll(t) {
		r.Holder = nobody
	}
	return r
}

func unreserved(r api.Resv) api.Resv {
	r.Type, r.Holder = 0, nobody
	return r
}
