package utf

// A sign from firstGreat on has two units, its halves, each of which has 10 of its bits.
const (
	firstGreat = 1 << 16
	highHalf   = 55296 // the first unit of all high halves
	lowHalf    = 56320 // the first unit of all low ones
	lowTen     = 1<<10 - 1
)

// appendSign has a sign's units behind units.
func appendSign(units []uint16, sign rune) []uint16 {
	if sign < firstGreat {
		return append(units, uint16(sign))
	}
	bits := uint32(sign - firstGreat)
	return append(units, uint16(highHalf+bits>>10), uint16(lowHalf+bits&lowTen))
}

// firstSign is the sign that units begin with, and how many of them are its: none, if there is a half without the other one.
func firstSign(units []uint16) (rune, int) {
	one := units[0]
	switch {
	case !isHigh(one) && !isLow(one):
		return rune(one), 1
	case isHigh(one) && len(units) > 1 && isLow(units[1]):
		return firstGreat + rune(one-highHalf)<<10 + rune(units[1]-lowHalf), 2
	}
	return 0, 0
}

func isHigh(unit uint16) bool { return unit&^lowTen == highHalf }

func isLow(unit uint16) bool { return unit&^lowTen == lowHalf }
