package nodes

import (
	"furrow/api"
	"furrow/cells"
	"furrow/packets"
	"furrow/votes"
)

// unit answers from its cells.
type unit struct{ *cells.Cells }

func openUnit(c api.Config, id int, image []byte) (part, api.Errno) {
	kept, e := cells.Open(c, id, image)
	return unit{kept}, e
}

func (u unit) answer(q packets.Request) ([]byte, bool) {
	table := map[int]func(unit, packets.Request) api.Reply{
		packets.Seal:  unit.seal,
		packets.Write: unit.write,
		packets.Read:  unit.read,
		packets.Trim:  unit.trim,
	}
	do, found := table[q.Kind]
	if !found {
		return nil, false
	}
	return packets.ReplyBytes(q.Number, do(u, q)), true
}

func (u unit) seal(q packets.Request) api.Reply {
	return u.Seal(q.Epoch)
}

func (u unit) write(q packets.Request) api.Reply {
	return u.Write(q.Epoch, q.Place, q.Content)
}

func (u unit) read(q packets.Request) api.Reply {
	return u.Read(q.Epoch, q.Place)
}

func (u unit) trim(q packets.Request) api.Reply {
	return u.Trim(q.Epoch, q.Place)
}

// voter answers from its promises and votes.
type voter struct{ *votes.Voter }

func openVoter(_ api.Config, _ int, image []byte) (part, api.Errno) {
	kept, e := votes.Open(image)
	return voter{kept}, e
}

func (v voter) answer(q packets.Request) ([]byte, bool) {
	table := map[int]func(voter, packets.Request) api.Vote{
		packets.Prepare: voter.prepare,
		packets.Accept:  voter.accept,
		packets.Recall:  voter.recall,
	}
	do, found := table[q.Kind]
	if !found {
		return nil, false
	}
	vote := do(v, q)
	return packets.VoteBytes(q.Number, v.Latest(), vote), true
}

func (v voter) prepare(q packets.Request) api.Vote {
	return v.Prepare(q.Epoch, q.Place)
}

func (v voter) accept(q packets.Request) api.Vote {
	return v.Accept(q.Epoch, q.Place, q.Content.Value)
}

func (v voter) recall(q packets.Request) api.Vote {
	return v.Recall(q.Epoch)
}
