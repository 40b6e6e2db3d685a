package desc

import (
	"strings"

	"packsaddle/utf"
)

// The bytes that no part of a name has, and those that a method's name hasn't beside them.
const (
	noPart   = ".;[/"
	noMethod = "<>"
)

// The methods' names that may have them.
const (
	newObject = "<init>"
	newClass  = "<clinit>"
)

// Member asks whether it is a field's name.
func Member(s string) bool { return isPart(s) && utf.Right(s) }

// Method asks whether it is a method's name.
func Method(s string) bool {
	return s == newObject || s == newClass || Member(s) && !strings.ContainsAny(s, noMethod)
}

// Class asks whether it is a class's name.
func Class(s string) bool {
	for part := range strings.SplitSeq(s, "/") {
		if !isPart(part) {
			return false
		}
	}
	return utf.Right(s)
}

// Named asks whether a class's constant may name it.
func Named(s string) bool { return Class(s) || Dims(s) > 0 && Field(s) }

// isPart asks whether it is a part of a name, but for its being right.
func isPart(s string) bool { return s != "" && !strings.ContainsAny(s, noPart) }
