package read

import (
	"sandtable/api"
	"sandtable/token"
)

// reader is tokens that are read, one behind the other, till the first fault; the last one, the end, is never read.
type reader struct {
	left  []token.Token
	fault api.Fault
}

// open is a reader of a text's tokens.
func open(text string) *reader {
	list, f := token.List(text)
	return &reader{left: list, fault: f}
}

// told is a model that was read; nothing with a fault.
func (r *reader) told(m api.Model) (api.Model, api.Fault) {
	if r.failed() {
		return api.Model{}, r.fault
	}
	return m, api.Fault{}
}

func (r *reader) failed() bool {
	return r.fault.E != api.OK
}

// fail keeps a fault where the next token stands, unless there is one already.
func (r *reader) fail(e api.Errno) {
	if !r.failed() {
		r.fault = api.Fault{E: e, At: r.left[0].At}
	}
}

// refuse tells that the next token can't be.
func (r *reader) refuse() {
	if r.ended() {
		r.fail(api.ErrShort)
	}
	r.fail(api.ErrForm)
}

// stands tells whether the next token is of a kind.
func (r *reader) stands(kind int) bool {
	return !r.failed() && r.left[0].Kind == kind
}

// ended tells whether all was read, without a fault.
func (r *reader) ended() bool {
	return r.stands(token.End)
}

// take reads a token of a kind; an empty one, if none stands next.
func (r *reader) take(kind int) token.Token {
	if !r.stands(kind) {
		r.refuse()
		return token.Token{}
	}
	t := r.left[0]
	r.left = r.left[1:]
	return t
}

// name reads any word.
func (r *reader) name() string {
	return r.take(token.Word).Text
}

func (r *reader) number() int64 {
	return r.take(token.Num).N
}

// skip reads a certain word or sign, and tells whether it stood next.
func (r *reader) skip(text string) bool {
	if r.failed() || r.left[0].Text != text {
		return false
	}
	r.left = r.left[1:]
	return true
}

// need reads a certain word or sign, which must stand next.
func (r *reader) need(text string) {
	if !r.skip(text) {
		r.refuse()
	}
}

// nameBehind reads a certain word, and any one behind it.
func (r *reader) nameBehind(word string) string {
	r.need(word)
	return r.name()
}

// numberBehind reads a certain word, and a number behind it.
func (r *reader) numberBehind(word string) int64 {
	r.need(word)
	return r.number()
}

// closed reads a }, and tells whether it stood next, or nothing is read any more.
func (r *reader) closed() bool {
	return r.failed() || r.skip("}")
}
