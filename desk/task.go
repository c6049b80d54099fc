package desk

import (
	"slices"

	"gyttja/api"
	"gyttja/office"
)

// task is a command that is right, and the office at which it is done.
type task struct {
	api.Command
	room *room
	desk *Desk
}

// deeds has what a command of each kind does: it returns the answer, or throws the error of a command that is refused.
func (t task) deeds() map[int]func() []string {
	return map[int]func() []string{
		api.CmdSheet:    t.write,
		api.CmdJoin:     t.write,
		api.CmdAsh:      t.write,
		api.CmdEvent:    t.write,
		api.CmdNote:     t.write,
		api.CmdCorrect:  t.write,
		api.CmdWithdraw: t.write,
		api.CmdDoubt:    t.write,
		api.CmdTrust:    t.write,
		api.CmdSync:     t.sync,
		api.CmdPack:     t.pack,
		api.CmdCrash:    t.crash,
		api.CmdSend:     t.send,
		api.CmdBounds:   t.bounds,
		api.CmdValues:   t.values,
		api.CmdWhen:     t.when,
		api.CmdOrder:    t.order,
		api.CmdCount:    t.count,
		api.CmdProve:    t.prove,
		api.CmdConflict: t.conflict,
		api.CmdLeaves:   t.leaves,
		api.CmdLeft:     t.left,
		api.CmdVoid:     t.void,
		api.CmdStanding: t.standing,
		api.CmdPlan:     t.plan,
		api.CmdSince:    t.since,
	}
}

// put writes an entry into the journal of an office.
func (r *room) put(x api.Entry) {
	shelf, store, e := office.Append(r.shelf, r.Store, x)
	refuse(e)
	r.shelf, r.Store = shelf, store
}

// entry is what a command writes.
func (t task) entry() api.Entry {
	at := api.Place{Office: t.Office, Seq: office.Next(t.room.Book, t.Office)}
	x := api.Entry{At: at, Kind: t.Kind, Hour: t.Hour, Reader: t.Args[0], Text: t.Text}
	if of := t.Args[1:]; len(of) > 0 {
		x.Of = api.Place{Office: of[0], Seq: of[1]}
	}
	return x
}

func (t task) write() []string {
	x := t.entry()
	t.room.put(x)
	return []string{"entry " + row(x.At.Office, x.At.Seq)}
}

func (t task) sync() []string {
	t.room.shelf = office.Sync(t.room.shelf)
	return []string{"ok"}
}

func (t task) pack() []string {
	way, store, e := office.Pack(t.room.shelf, t.room.Store)
	refuse(e)
	t.room.shelf, t.room.Store = way[len(way)-1], store
	return []string{"ok"}
}

func (t task) crash() []string {
	left := office.Crash(t.room.shelf, [2]int{t.Args[0], t.Args[1]})
	shelf, store, e := office.Open(left)
	refuse(e)
	t.room.shelf, t.room.Store = shelf, store
	return t.room.size()
}

// send makes firm what is sent: otherwise a crash might lose it here, and its place be given to another entry.
func (t task) send() []string {
	if t.Args[0] == t.Office || !t.desk.has(t.Args[0]) {
		refuse(api.ErrOffer)
	}
	t.room.shelf = office.Sync(t.room.shelf)
	other := &t.desk.rooms[t.Args[0]]
	for _, x := range t.room.Book.Entries {
		if !slices.Contains(other.Book.Entries, x) {
			other.put(x)
		}
	}
	return other.size()
}

func (r *room) size() []string { return []string{"entries " + row(len(r.Book.Entries))} }
