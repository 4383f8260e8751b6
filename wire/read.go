package wire

import (
	"strings"

	"collet/api"
	"collet/ratio"
)

// Reader decodes a string.
type Reader struct {
	rest string // what is left: nothing of a bad reader
	bad  bool
}

// New returns a reader of a string.
func New(s string) *Reader { return &Reader{rest: s} }

// Bad reports whether something could not be decoded; always for a nil Reader.
func (r *Reader) Bad() bool { return r == nil || r.bad }

// Left returns how many bytes are left.
func (r *Reader) Left() int {
	if r == nil {
		return 0
	}
	return len(r.rest)
}

// Int decodes an int.
func (r *Reader) Int() int {
	if r.Bad() {
		return 0
	}
	code, size := firstCode(r.rest)
	if size == 0 {
		r.fail()
		return 0
	}
	r.rest = r.rest[size:]
	return intOf(code)
}

// Text decodes a string.
func (r *Reader) Text() string {
	size := r.count()
	if size > r.Left() {
		r.fail()
	}
	if r.Bad() {
		return ""
	}
	text := strings.Clone(r.rest[:size]) // a short text does not keep a long string in memory
	r.rest = r.rest[size:]
	return text
}

// Ints decodes a list of ints.
func (r *Reader) Ints() []int { return listOf(r, r.Int) }

// Vec decodes a vector.
func (r *Reader) Vec() api.Vec {
	v := api.Vec{X: r.Int(), Y: r.Int(), Z: r.Int()}
	if r.Bad() { // maybe not from the beginning: X may have been read
		return api.Vec{}
	}
	return v
}

// Cell decodes a list of planes.
func (r *Reader) Cell() []api.Plane { return listOf(r, r.plane) }

// Ratio decodes a Ratio.
func (r *Reader) Ratio() api.Ratio {
	v, ok := ratio.Parse(r.Text())
	if !ok { // also of a bad reader: no Ratio has an empty text
		r.fail()
	}
	return v
}

// plane decodes a plane; any plane if the reader becomes bad.
func (r *Reader) plane() api.Plane { return api.Plane{N: r.Vec(), B: r.Int()} }

// listOf decodes a list by what decodes its elements.
func listOf[T any](r *Reader, read func() T) []T {
	var l []T
	for range r.count() {
		// Memory is taken as elements are read: the count may promise many more than there are.
		x := read()
		if r.Bad() {
			return nil
		}
		l = append(l, x)
	}
	return l
}

// count decodes an int that is not negative.
func (r *Reader) count() int {
	n := r.Int()
	if n < 0 {
		r.fail()
		return 0
	}
	return n
}

// fail makes the reader bad.
func (r *Reader) fail() {
	if r != nil {
		*r = Reader{bad: true}
	}
}

// firstCode returns the code with which s begins, and how many bytes it has; 0 and 0 if there is none.
func firstCode(s string) (uint64, int) {
	var code uint64
	for i := range min(len(s), longest) {
		group := uint64(s[i] % more)
		shift := groupBits * i
		if group<<shift>>shift != group { // more than 64 binary digits
			break
		}
		code |= group << shift
		if s[i] < more {
			if group == 0 && i > 0 { // not as few bytes as possible
				break
			}
			return code, i + 1
		}
	}
	return 0, 0
}
