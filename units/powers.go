package units

import "queuelab/api"

// maxPower is the greatest exponent, and the least one without its sign.
const maxPower = 4

// powers is a unit as an array, so that all exponents are treated alike: those of packets, bytes and time.
type powers [3]int

// kinds has the powers of each kind of a unit.
var kinds = [...]powers{
	api.UnitNone:    {0, 0, 0},
	api.UnitPackets: {1, 0, 0},
	api.UnitBytes:   {0, 1, 0},
	api.UnitTime:    {0, 0, 1},
	api.UnitRate:    {0, 1, -1},
}

// inputs has the kind of the unit of each input.
var inputs = [api.Inputs]int{
	api.InAcked: api.UnitPackets,
	api.InRtt:   api.UnitTime,
	api.InSize:  api.UnitBytes,
	api.InTotal: api.UnitPackets,
}

func isKind(kind int) bool { return isIndex(kind, len(kinds)) }

// isIndex reports whether a number is an index of a list of some length.
func isIndex(n, length int) bool { return between(n, 0, length-1) }

func between(n, low, high int) bool { return low <= n && n <= high }

func (p powers) unit() api.Unit { return api.Unit{Packets: p[0], Bytes: p[1], Time: p[2]} }

// inRange reports whether no exponent is too great or too small.
func (p powers) inRange() bool {
	for _, exponent := range p {
		if !between(exponent, -maxPower, maxPower) {
			return false
		}
	}
	return true
}

// add returns the exponents of a unit with those of another one, each taken some times.
func add[U ~[3]int](a, b U, times int) U {
	for i := range a {
		a[i] += times * b[i]
	}
	return a
}
