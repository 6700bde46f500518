package ledger

import "heijunka/api"

// refusal ends a call that has changed nothing; its code.
type refusal api.Code

// loss ends a call that finds the power gone, and the ledger with it: which of the writes are there, opening it anew alone can tell.
type loss struct{}

// must goes on where a code is OK, and ends the call elsewhere.
func must(code api.Code) {
	switch code {
	case api.OK:
	case api.Down:
		panic(loss{})
	default:
		panic(refusal(code))
	}
}

// call does what a call does, and tells how it ended; of a lost ledger it does nothing.
func (l *Ledger) call(do func()) (code api.Code) {
	if l.lost {
		return api.Down
	}
	defer func() {
		switch end := recover().(type) {
		case nil:
		case refusal:
			code = api.Code(end)
		case loss:
			*l, code = Ledger{lost: true}, api.Down
		default: // none that this package ends a call by
			panic(end)
		}
	}()
	do()
	return api.OK
}
