package surge

import "buchholz/api"

// checked is a valid impulse.
type checked struct{ api.SurgeImpulse }

// slope is by how much the voltage rises on a piece, in how much time.
type slope struct{ rise, time int }

func checkedFrom(x api.SurgeImpulse) (checked, api.Errno) {
	if _, e := CheckImpulse(x); e != api.OK {
		return checked{}, e
	}
	return checked{x}, api.OK
}

// slopes yields the slope of each piece, and the index of the point where it begins.
func (x checked) slopes(yield func(int, slope) bool) {
	for i, p := range x.Points[1:] {
		from := x.Points[i]
		if !yield(i, slope{rise: p.Voltage - from.Voltage, time: p.Time - from.Time}) {
			return
		}
	}
}

// first returns the first point.
func (x checked) first() api.SurgePoint {
	return x.Points[0]
}

// last returns the last point.
func (x checked) last() api.SurgePoint {
	return x.Points[len(x.Points)-1]
}

// valueAt returns the value at a time, as a numerator and a denominator.
func (x checked) valueAt(time int) (num, den int) {
	if time < x.first().Time {
		return 0, 1
	}
	for i, s := range x.slopes {
		from := x.Points[i]
		if passed := time - from.Time; passed <= s.time {
			return from.Voltage*s.time + passed*s.rise, s.time
		}
	}
	return x.last().Voltage, 1
}

// isSteeper returns whether a slope is greater in size than another one.
func isSteeper(s, than slope) bool {
	return sizeOf(s.rise)*than.time > sizeOf(than.rise)*s.time
}

// FullImpulse returns the full impulse.
func FullImpulse(peak, front, tail int) (api.SurgeImpulse, api.Errno) {
	if e := firstOf(sized(api.MaxSurgeVoltage)(peak), within(1, api.MaxSurgeTail)(front, tail)); e != api.OK {
		return api.SurgeImpulse{}, e
	}
	if tail <= front {
		return api.SurgeImpulse{}, api.ErrOrder
	}
	return api.SurgeImpulse{Points: []api.SurgePoint{
		{Time: 0, Voltage: 0},
		{Time: front, Voltage: peak},
		{Time: tail, Voltage: roundedDown(peak, 2)},
		{Time: 4 * tail, Voltage: 0},
	}}, api.OK
}

// Chopped returns an impulse that is chopped at a time, with a fall.
func Chopped(x api.SurgeImpulse, at, fall int) (api.SurgeImpulse, api.Errno) {
	c, e := checkedFrom(x)
	if e != api.OK {
		return api.SurgeImpulse{}, e
	}
	times := within(c.first().Time+1, c.last().Time)
	if e := firstOf(times(at), within(1, api.MaxSurgeTail)(fall)); e != api.OK {
		return api.SurgeImpulse{}, e
	}
	var points []api.SurgePoint
	for _, p := range c.Points {
		if p.Time < at {
			points = append(points, p)
		}
	}
	points = append(points,
		api.SurgePoint{Time: at, Voltage: roundedDown(c.valueAt(at))},
		api.SurgePoint{Time: at + fall, Voltage: 0},
	)
	if at+fall > api.MaxSurgeTime || len(points) > api.MaxSurgePoints {
		return api.SurgeImpulse{}, api.ErrLarge
	}
	return api.SurgeImpulse{Points: points}, api.OK
}

// ValueAt returns the value of an impulse at a time.
func ValueAt(x api.SurgeImpulse, time int) (api.Frac, api.Errno) {
	c, e := checkedFrom(x)
	if e = firstOf(e, within(0, api.MaxSurgeTime)(time)); e != api.OK {
		return api.Frac{}, e
	}
	return limited(reduced(c.valueAt(time)))
}

// SteepestOf returns the index of the first point where a piece with the maximum size of its slope begins, and this size.
func SteepestOf(x api.SurgeImpulse) (int, api.Frac, api.Errno) {
	c, e := checkedFrom(x)
	if e != api.OK {
		return 0, api.Frac{}, e
	}
	first, steepest := 0, slope{rise: 0, time: 1}
	for i, s := range c.slopes {
		if isSteeper(s, steepest) {
			first, steepest = i, s
		}
	}
	return first, reduced(sizeOf(steepest.rise), steepest.time), api.OK
}
