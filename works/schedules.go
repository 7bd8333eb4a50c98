package works

import "buchholz/api"

const maxStart = 10 * api.MaxWorksTasks * api.MaxWorksLength // of a schedule that is given

// schedule is a valid plan, and a start for each task.
type schedule struct {
	plan
	starts []int
}

func checkedSchedule(p api.WorksPlan, starts []int) (schedule, int, api.Errno) {
	x, e := checkedPlan(p)
	if e != api.OK {
		return schedule{}, 0, e
	}
	if len(starts) != len(x.Tasks) {
		return schedule{}, 0, api.ErrShape
	}
	i, e := checkEach(starts, func(_, start int) api.Errno {
		return within(0, maxStart)(start)
	})
	if e != api.OK {
		return schedule{}, i, e
	}
	s := schedule{x, starts}
	if i, e := checkEach(starts, s.checkStart); e != api.OK {
		return schedule{}, i, e
	}
	return s, 0, api.OK
}

// endOf returns the end of a task.
func (s schedule) endOf(task int) int {
	return s.starts[task] + s.Tasks[task].Length
}

// checkStart refuses the start of a task, if it is too early, or the machine is busy then.
func (s schedule) checkStart(task, start int) api.Errno {
	t := s.Tasks[task]
	if start < t.Release {
		return api.ErrBreak
	}
	for _, before := range t.After {
		if start < s.endOf(before) {
			return api.ErrOrder
		}
	}
	for other := range task {
		if s.Tasks[other].Machine == t.Machine && s.overlap(other, task) {
			return api.ErrBusy
		}
	}
	return api.OK
}

func (s schedule) overlap(a, b int) bool {
	return s.starts[a] < s.endOf(b) && s.starts[b] < s.endOf(a)
}

// end returns the end of the schedule.
func (s schedule) end() int {
	end := 0
	for task := range s.Tasks {
		end = max(end, s.endOf(task))
	}
	return end
}

// CheckSchedule accepts a possible schedule: it returns the index of the first wrong task, and its error.
func CheckSchedule(p api.WorksPlan, starts []int) (int, api.Errno) {
	_, i, e := checkedSchedule(p, starts)
	return i, e
}

// EndOf returns the end of a possible schedule.
func EndOf(p api.WorksPlan, starts []int) (int, api.Errno) {
	s, _, e := checkedSchedule(p, starts)
	if e != api.OK {
		return 0, e
	}
	return s.end(), api.OK
}
