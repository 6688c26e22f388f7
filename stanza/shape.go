package stanza

import (
	"tidewater/api"
	"tidewater/trees"
)

// field is an attribute that an element may have, or must.
type field struct {
	name  string
	mayBe test
	must  bool
}

func must(name string, mayBe test) field { return field{name, mayBe, true} }

func may(name string, mayBe test) field { return field{name, mayBe, false} }

// shape is what an element must be like, its kids aside.
type shape struct {
	name   string
	fields []field
	text   test
}

// fits tells whether e has this shape, whatever its kids are.
func (s shape) fits(e api.Elem) bool {
	if e.Name != s.name || !s.text(e.Text) {
		return false
	}
	known := 0
	for _, f := range s.fields {
		v, there := trees.Attr(e, f.name)
		if there && !f.mayBe(v) || f.must && !there {
			return false
		}
		if there {
			known++
		}
	}
	// Any more than these aren't told, or are there twice.
	return known == len(e.Attrs)
}

// isMeant tells whether e is to have this shape: elements are known by their names, and an iq by its type, too.
func (s shape) isMeant(e api.Elem) bool {
	if e.Name != s.name {
		return false
	}
	return s.name != "iq" || s.fields[0].mayBe(value(e, "type"))
}

// nest is a shape of an element with kids: so many of them, all alike.
type nest struct {
	shape
	least, most int
	kids        []nest // the one that they are like, or none
}

// fitsWhole tells whether e, and all within it, is as it must be.
func (n nest) fitsWhole(e api.Elem) bool {
	if !n.fits(e) || len(e.Kids) < n.least || len(e.Kids) > n.most {
		return false
	}
	for _, like := range n.kids {
		for _, kid := range e.Kids {
			if !like.fitsWhole(kid) {
				return false
			}
		}
	}
	return true
}

// bare answers the shape of an element that has these attributes alone.
func bare(name string, fields ...field) nest {
	return nest{shape: shape{name, fields, oneOf("")}}
}

// saying answers the shape of an element that has a text alone.
func saying(name string, text test) nest {
	return nest{shape: shape{name, nil, text}}
}

// around answers the shape with so many kids that are like that one.
func (n nest) around(least, most int, kid nest) nest {
	n.least, n.most, n.kids = least, most, []nest{kid}
	return n
}

func iqShape(kind string) nest {
	return bare("iq", must("type", oneOf(kind)), must("id", isWord))
}

func itemShape(subs ...string) nest {
	return bare("item", must("jid", User), may("name", isWord), may("subscription", oneOf(subs...)), may("ask", oneOf("subscribe")))
}

const maxItems = 16 // of a Result

// shapes answers what each kind's element must be like: the chapter's table.
func shapes() map[int]nest {
	maybeVer, ver := may("ver", isVersion), must("ver", isVersion)
	h, previd := must("h", isNumber), must("previd", isWord)
	types := oneOf("unavailable", "subscribe", "subscribed", "unsubscribe", "unsubscribed")
	show := saying("show", oneOf("away", "chat", "dnd", "xa"))
	inSet, inResult := itemShape("to", "from", "both", remove), itemShape("to", "from", "both")
	return map[int]nest{
		api.Presence: bare("presence", may("type", types), may("from", isAddress), may("to", isAddress)).around(0, 1, show),
		api.Get:      iqShape("get").around(1, 1, bare("query", maybeVer)),
		api.Set:      iqShape("set").around(1, 1, bare("query", maybeVer).around(1, 1, inSet)),
		api.Result:   iqShape("result").around(0, 1, bare("query", ver).around(0, maxItems, inResult)),
		api.Fault:    iqShape("error").around(1, 1, saying("error", isWord)),
		api.Enable:   bare("enable"),
		api.Enabled:  bare("enabled", must("id", isWord)),
		api.Ask:      bare("r"),
		api.Ack:      bare("a", h),
		api.Resume:   bare("resume", h, previd),
		api.Resumed:  bare("resumed", h, previd),
		api.Failed:   bare("failed"),
		api.Active:   bare("active"),
		api.Inactive: bare("inactive"),
	}
}
