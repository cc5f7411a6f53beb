package node

import (
	"errors"

	"corncrib/api"
	"corncrib/vol"
	"corncrib/wire"
)

// Handle does what a request asks for, and tells the answer.
func (n *Node) Handle(m wire.Msg) (wire.Msg, error) {
	if err := n.serves(); err != nil {
		return wire.Msg{}, err
	}
	if m.Kind == wire.Answer || wire.Check(m) != nil || m.To != n.place {
		return wire.Msg{}, api.ErrArg
	}
	if m.Life != n.life {
		stale := refusal(m, api.ErrStale)
		stale.Life = n.life
		return stale, nil
	}
	if answer, err := n.answers.Find(m.From, m.Id); err == nil {
		return answer, nil
	}
	if !n.answers.Room() {
		return refusal(m, api.ErrBusy), nil
	}
	answer := n.answer(m)
	if !n.Up() {
		return wire.Msg{}, api.ErrDown
	}
	if err := n.answers.Keep(answer); err != nil {
		return wire.Msg{}, err
	}
	return answer, nil
}

// answer does a request that comes for the first time, and tells what came of it.
func (n *Node) answer(m wire.Msg) wire.Msg {
	if !m.Has {
		return refusal(m, api.ErrArg)
	}
	v := n.Vol(m.Vol)
	if v == nil {
		return refusal(m, api.ErrNone)
	}
	got, err := do(v, m)
	code := codeOf(err)
	told, has := tell(v, m, code, got)
	return wire.Reply(m, int(code), has, told)
}

// do does what a request asks a volume for; a get tells what it got.
func do(v *vol.Vol, m wire.Msg) (api.Needle, error) {
	switch m.Kind {
	case wire.Put:
		return api.Needle{}, v.Put(m.N)
	case wire.Lay:
		return api.Needle{}, v.Lay(m.N)
	case wire.Del:
		return api.Needle{}, v.Del(m.N.Key, m.N.Cookie)
	}
	return v.Get(m.N.Key, m.N.Cookie)
}

// tell tells the needle that goes with a code to who asked, if one does.
func tell(v *vol.Vol, m wire.Msg, code api.Code, got api.Needle) (api.Needle, bool) {
	switch m.Kind {
	case wire.Get:
		if code == 0 {
			return got, true
		}
		// A get that got nothing is told what is in its way, as the others are.
		fallthrough
	case wire.Put, wire.Del:
		if code == api.ErrThere || code == api.ErrGone || code == api.ErrCookie {
			return stands(v, m.N.Key)
		}
	}
	return api.Needle{}, false
}

// stands tells what stands at a key's position, if it has one, and its bytes are
// right.
func stands(v *vol.Vol, key uint64) (api.Needle, bool) {
	l := v.Keys(key, 1)
	if len(l) == 0 || l[0].Key != key {
		return api.Needle{}, false
	}
	if l[0].Gone {
		return api.Needle{Key: key, Cookie: l[0].Cookie, Gone: true}, true
	}
	n, err := v.Get(key, l[0].Cookie)
	return n, err == nil
}

// refusal tells an answer to a request that no volume was asked about.
func refusal(m wire.Msg, code api.Code) wire.Msg {
	return wire.Reply(m, int(code), false, api.Needle{})
}

// codeOf tells the code that an error is of: 0 of none. There is one in all that a
// volume tells.
func codeOf(err error) api.Code {
	var code api.Code
	errors.As(err, &code)
	return code
}
