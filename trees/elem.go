package trees

import (
	"slices"
	"strings"

	"tidewater/api"
	"tidewater/signs"
)

// Right tells whether e may be.
func Right(e api.Elem) bool {
	// The depth is looked at first, so that this ends for an element that lies within itself, too.
	var mayBe func(e api.Elem, depth int) bool
	mayBe = func(e api.Elem, depth int) bool {
		if depth > api.MaxDepth || len(e.Kids) > maxKids {
			return false
		}
		if !signs.Name(e.Name) || !rightAttrs(e.Attrs) || signs.Right(e.Text) != api.OK {
			return false
		}
		for _, kid := range e.Kids {
			if !mayBe(kid, depth+1) {
				return false
			}
		}
		return true
	}
	return mayBe(e, 1)
}

func rightAttrs(attrs []api.Attr) bool {
	if len(attrs) > api.MaxAttrs {
		return false
	}
	known := map[string]bool{}
	for _, a := range attrs {
		if known[a.Name] || !signs.Name(a.Name) || signs.Right(a.Value) != api.OK {
			return false
		}
		known[a.Name] = true
	}
	return true
}

// Write answers the text of e, or ErrForm if it may not be.
func Write(e api.Elem) (string, api.Errno) {
	if !Right(e) {
		return "", api.ErrForm
	}
	var text strings.Builder
	var write func(e api.Elem)
	write = func(e api.Elem) {
		text.WriteString("<" + e.Name + attrsText(e.Attrs))
		if e.Text == "" && len(e.Kids) == 0 {
			text.WriteString("/>")
			return
		}
		text.WriteString(">" + escaped(e.Text))
		for _, kid := range e.Kids {
			write(kid)
		}
		text.WriteString("</" + e.Name + ">")
	}
	write(e)
	return text.String(), api.OK
}

func attrsText(attrs []api.Attr) string {
	text := ""
	for _, a := range attrs {
		text += " " + a.Name + "=\"" + escaped(a.Value) + "\""
	}
	return text
}

// escaped answers what stands for s, whose signs were found right ahead of it.
func escaped(s string) string {
	text, _ := signs.Escape(s)
	return text
}

// Same tells whether a and b are the same in each part.
func Same(a, b api.Elem) bool {
	var same func(a, b api.Elem) bool
	same = func(a, b api.Elem) bool {
		return a.Name == b.Name && a.Text == b.Text && slices.Equal(a.Attrs, b.Attrs) && slices.EqualFunc(a.Kids, b.Kids, same)
	}
	return same(a, b)
}

// Attr answers the value of the first attribute of this name, if there is one.
func Attr(e api.Elem, name string) (string, bool) {
	for _, a := range e.Attrs {
		if a.Name == name {
			return a.Value, true
		}
	}
	return "", false
}
