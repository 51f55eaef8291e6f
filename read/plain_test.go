package read_test

import (
	"slices"

	"sandtable/api"
	"sandtable/token"
)

// way is which token may stand at a state of a text, and the state behind it: a certain word or sign, or, with an N or a W, any number or word.
type way struct{ at, of, to string }

// ways are all that the grammar allows; where several are at a state, the first one that fits is gone.
func ways() []way {
	return []way{
		{"start", "model", "version"}, {"version", "N", "open"}, {"open", "{", "decl"},
		{"decl", "}", "done"}, {"decl", "proc", "proc"}, {"decl", "link", "link"}, {"decl", "event", "event"},
		{"proc", "W", "proc?"}, {"proc?", "weight", "proc weight"}, {"proc?", "{", "item"}, {"proc weight", "N", "body"}, {"body", "{", "item"},
		{"item", "}", "decl"}, {"item", "var", "var"}, {"item", "put", "step"}, {"item", "add", "step"}, {"item", "mul", "step"}, {"item", "send", "step"},
		{"var", "W", "var ="}, {"var =", "=", "init"}, {"init", "N", "item;"}, {"step", "W", "arg"}, {"arg", "N", "item;"}, {"arg", "W", "item;"}, {"item;", ";", "item"},
		{"link", "W", "from?"}, {"from?", "from", "from"}, {"from", "W", "to?"}, {"to?", "to", "to"}, {"to", "W", "delay?"}, {"delay?", "delay", "delay"},
		{"delay", "N", "link?"}, {"link?", ";", "decl"}, {"link?", "weight", "link weight"}, {"link weight", "N", "decl;"}, {"decl;", ";", "decl"},
		{"event", "W", "at?"}, {"at?", "at", "at"}, {"at", "N", "value?"}, {"value?", "value", "value"}, {"value", "N", "decl;"},
	}
}

func (w way) fits(state string, t token.Token) bool {
	return w.at == state && (w.of == t.Text || w.of == "N" && t.Kind == token.Num || w.of == "W" && t.Kind == token.Word)
}

// plain is how many models of a text end ahead of its first fault, and that fault, if another model may begin behind each, and if none may.
func plain(text string) (models int, several, one api.Fault) {
	list, f := token.List(text)
	if f != (api.Fault{}) {
		return 0, f, f
	}
	all := ways()
	state := "start"
	for _, t := range list {
		if state == "done" {
			if models++; models == 1 && t.Kind != token.End {
				one = api.Fault{E: api.ErrMore, At: t.At}
			}
			state = "start"
		}
		i := slices.IndexFunc(all, func(w way) bool { return w.fits(state, t) })
		if i < 0 {
			fault := api.Fault{E: api.ErrForm, At: t.At}
			if t.Kind == token.End {
				fault.E = api.ErrShort
			}
			if models == 0 {
				one = fault
			}
			if t.Kind == token.End && state == "start" {
				fault = api.Fault{}
			}
			return models, fault, one
		}
		state = all[i].to
	}
	panic("the end was passed")
}
