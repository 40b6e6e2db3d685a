package pool

import (
	"packsaddle/api"
	"packsaddle/cursor"
	"packsaddle/utf"
)

// constant is what stands behind a tag.
type constant interface {
	bytes() []byte
	value(l []api.Raw) (api.Value, bool) // but for its Tag; false, if it leads to what it shouldn't
}

// text is a TagText's.
type text string

// number is that of the four tags that have Bits, in so many bytes.
type number struct {
	bits  uint64
	width int
}

// ofText leads to a text.
type ofText struct{ text int }

// class and quote, a TagString's, are alike, but a member leads to a class alone.
type class struct{ ofText }
type quote struct{ ofText }

// pair leads to two texts.
type pair struct{ name, desc int }

// member is a field's, a method's, or an interface's method's.
type member struct{ class, pair int }

// constantOf is a constant by its tag: nil, if that is none.
func constantOf(r api.Raw) constant {
	switch r.Tag {
	case api.TagText:
		return text(r.Text)
	case api.TagInt, api.TagFloat:
		return number{r.Bits, 4}
	case api.TagLong, api.TagDouble:
		return number{r.Bits, 8}
	case api.TagClass:
		return class{ofText{r.A}}
	case api.TagString:
		return quote{ofText{r.A}}
	case api.TagField, api.TagMethod, api.TagInterface:
		return member{r.A, r.B}
	case api.TagPair:
		return pair{r.A, r.B}
	}
	return nil
}

// readConstant reads a tag, and what stands behind it.
func readConstant(c *cursor.Cursor) api.Raw {
	r := api.Raw{Tag: int(c.Big(1))}
	switch k := constantOf(r).(type) {
	case text:
		r.Text = string(c.Take(int(c.Big(2))))
		if !utf.Right(r.Text) {
			c.Fail(api.ErrForm)
		}
	case number:
		r.Bits = c.Big(k.width)
	case class, quote:
		r.A = int(c.Big(2))
	case pair, member:
		r.A = int(c.Big(2))
		r.B = int(c.Big(2))
	default:
		c.Fail(api.ErrKind)
	}
	return r
}

// at is the constant of a number: nil, if that has none.
func at(l []api.Raw, i int) constant {
	if i <= 0 || i >= len(l) {
		return nil
	}
	return constantOf(l[i])
}

// textAt is the text of a number, and whether it has one.
func textAt(l []api.Raw, i int) (string, bool) {
	t, right := at(l, i).(text)
	return string(t), right
}

// two are a number's lowest two bytes.
func two(n int) []byte { return cursor.Big(nil, uint64(n), 2) }

func (k text) bytes() []byte { return append(two(len(k)), k...) }

func (k number) bytes() []byte { return cursor.Big(nil, k.bits, k.width) }

func (k ofText) bytes() []byte { return two(k.text) }

func (k pair) bytes() []byte { return append(two(k.name), two(k.desc)...) }

func (k member) bytes() []byte { return append(two(k.class), two(k.pair)...) }

func (k text) value([]api.Raw) (api.Value, bool) { return api.Value{Text: string(k)}, true }

func (k number) value([]api.Raw) (api.Value, bool) { return api.Value{Bits: k.bits}, true }

func (k ofText) value(l []api.Raw) (api.Value, bool) {
	t, right := textAt(l, k.text)
	return api.Value{Text: t}, right
}

func (k pair) value(l []api.Raw) (api.Value, bool) {
	name, right := textAt(l, k.name)
	desc, rightToo := textAt(l, k.desc)
	return api.Value{Name: name, Desc: desc}, right && rightToo
}

func (k member) value(l []api.Raw) (api.Value, bool) {
	c, right := at(l, k.class).(class)
	p, rightToo := at(l, k.pair).(pair)
	if !right || !rightToo {
		return api.Value{}, false
	}
	of, right := c.value(l)
	v, rightToo := p.value(l)
	v.Class = of.Text
	return v, right && rightToo
}
