package stanza

import (
	"strconv"

	"tidewater/api"
	"tidewater/wrap"
)

// Write answers the element whose stanza s is.
func Write(s api.Stanza) (api.Elem, api.Errno) {
	e := elemOf(s)
	// A part that may not be, or that the kind doesn't have, doesn't come back as it was: so reading alone decides what may be.
	if back, f := Read(e); f != api.OK || !Same(back, s) {
		return api.Elem{}, api.ErrArg
	}
	return e, api.OK
}

// elemOf answers the element whose stanza s is, if there is one; else any other element.
func elemOf(s api.Stanza) api.Elem {
	switch s.Kind {
	case api.Presence:
		return presence(s)
	case api.Get:
		return iq("get", s.Id, query(s))
	case api.Set:
		return iq("set", s.Id, query(s))
	case api.Result:
		if s.Ver == 0 {
			return iq("result", s.Id)
		}
		return iq("result", s.Id, query(s))
	case api.Fault:
		return iq("error", s.Id, api.Elem{Name: "error", Text: s.Reason})
	case api.Enabled:
		return elem("enabled", "id", s.Token)
	case api.Ack:
		return elem("a", "h", wrap.Text(s.H))
	case api.Resume:
		return elem("resume", "h", wrap.Text(s.H), "previd", s.Token)
	case api.Resumed:
		return elem("resumed", "h", wrap.Text(s.H), "previd", s.Token)
	}
	return elem(bareName(s.Kind))
}

// bareName answers the name of a kind's element that has nothing else.
func bareName(kind int) string {
	switch kind {
	case api.Enable:
		return "enable"
	case api.Ask:
		return "r"
	case api.Failed:
		return "failed"
	case api.Active:
		return "active"
	case api.Inactive:
		return "inactive"
	}
	return ""
}

// elem answers an element with attributes of these names and values, but for those whose value is empty: what is told by none.
func elem(name string, namesAndValues ...string) api.Elem {
	e := api.Elem{Name: name}
	for i := 1; i < len(namesAndValues); i += 2 {
		if v := namesAndValues[i]; v != "" {
			e.Attrs = append(e.Attrs, api.Attr{Name: namesAndValues[i-1], Value: v})
		}
	}
	return e
}

func presence(s api.Stanza) api.Elem {
	e := elem("presence", "type", s.Type, "from", s.From, "to", s.To)
	if s.Show != "" {
		e.Kids = []api.Elem{{Name: "show", Text: s.Show}}
	}
	return e
}

func iq(kind, id string, kids ...api.Elem) api.Elem {
	e := elem("iq", "type", kind, "id", id)
	e.Kids = kids
	return e
}

func query(s api.Stanza) api.Elem {
	ver := ""
	if s.Ver != 0 {
		ver = strconv.Itoa(s.Ver)
	}
	e := elem("query", "ver", ver)
	for _, i := range s.Items {
		sub := subText(i.Sub)
		if s.Remove {
			sub = remove
		}
		e.Kids = append(e.Kids, item(i, sub))
	}
	return e
}

func item(i api.Item, sub string) api.Elem {
	ask := ""
	if i.Asked {
		ask = "subscribe"
	}
	return elem("item", "jid", i.User, "name", i.Name, "subscription", sub, "ask", ask)
}

// subText answers the text of a state; a number that is no state's has none, and doesn't come back.
func subText(sub int) string {
	if sub < 0 || sub >= len(subTexts) {
		return ""
	}
	return subTexts[sub]
}
