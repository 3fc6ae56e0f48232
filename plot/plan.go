package plot

import (
	"cmp"
	"slices"

	"wigmaker/api"
)

// ValidateJobs returns the first error of shifts and jobs (P7.5).
func ValidateJobs(shifts []int, jobs []api.Job) api.Errno {
	if len(shifts) > api.MaxDays || len(jobs) > api.MaxJobs {
		return api.ErrLarge
	}
	for _, minutes := range shifts {
		if minutes < 0 || minutes > api.MaxShift {
			return api.ErrArg
		}
	}
	for _, j := range jobs {
		if j.Work < 0 || j.Work > api.MaxWork || !isWindow(shifts, j.Ready, j.Due) {
			return api.ErrArg
		}
	}
	return api.OK
}

// isWindow reports whether there are days from .. to.
func isWindow(shifts []int, from, to int) bool {
	return from >= 0 && from <= to && to < len(shifts)
}

// CheckPlan returns the first error of a plan (P7.6).
func CheckPlan(shifts []int, jobs []api.Job, plan []api.Slot) api.Errno {
	if e := ValidateJobs(shifts, jobs); e != api.OK {
		return e
	}
	for _, s := range plan {
		if e := checkSlot(shifts, jobs, s); e != api.OK {
			return e
		}
	}
	var taken [api.MaxDays][api.MaxJobs]bool
	for _, s := range plan {
		if taken[s.Day][s.Job] {
			return api.ErrTwice
		}
		taken[s.Day][s.Job] = true
	}
	left := slices.Clone(shifts)
	for _, s := range plan {
		// Compared before it is subtracted: a sum of slots could overflow.
		if s.Minutes > left[s.Day] {
			return api.ErrOverlap
		}
		left[s.Day] -= s.Minutes
	}
	var worked [api.MaxJobs]int
	for _, s := range plan {
		worked[s.Job] += s.Minutes
	}
	for i, j := range jobs {
		if worked[i] != j.Work {
			return api.ErrShort
		}
	}
	return api.OK
}

// checkSlot returns the first error of a slot by itself.
func checkSlot(shifts []int, jobs []api.Job, s api.Slot) api.Errno {
	if s.Day < 0 || s.Day >= len(shifts) || s.Job < 0 || s.Job >= len(jobs) {
		return api.ErrNone
	}
	if s.Minutes < 1 || s.Day < jobs[s.Job].Ready || s.Day > jobs[s.Job].Due {
		return api.ErrArg
	}
	return api.OK
}

// Plan returns a plan, if there is one (P7.6). On each day, what is due first
// is worked at first: that serves whenever anything does.
func Plan(shifts []int, jobs []api.Job) ([]api.Slot, bool, api.Errno) {
	if e := ValidateJobs(shifts, jobs); e != api.OK {
		return nil, false, e
	}
	var order, work []int
	for i, j := range jobs {
		order = append(order, i)
		work = append(work, j.Work)
	}
	slices.SortStableFunc(order, func(i, j int) int { return cmp.Compare(jobs[i].Due, jobs[j].Due) })
	var plan []api.Slot
	for day, left := range shifts {
		var minutes [api.MaxJobs]int
		for _, i := range order {
			if jobs[i].Ready <= day && day <= jobs[i].Due {
				minutes[i] = min(left, work[i])
				left -= minutes[i]
				work[i] -= minutes[i]
			}
		}
		for i, n := range minutes {
			if n > 0 {
				plan = append(plan, api.Slot{Day: day, Job: i, Minutes: n})
			}
		}
	}
	for _, n := range work {
		if n > 0 {
			return nil, false, api.OK
		}
	}
	return plan, true, api.OK
}

// spare returns the minutes of a window minus the work that must be done in it.
func spare(shifts []int, jobs []api.Job, from, to int) int {
	sum := 0
	for _, minutes := range shifts[from : to+1] {
		sum += minutes
	}
	for _, j := range jobs {
		if j.Ready >= from && j.Due <= to {
			sum -= j.Work
		}
	}
	return sum
}

// IsProof reports whether a window excludes that there is a plan (P7.7).
func IsProof(shifts []int, jobs []api.Job, from, to int) (bool, api.Errno) {
	n, e := Spare(shifts, jobs, from, to)
	return n < 0, e
}

// Proof returns the first window that excludes that there is a plan (P7.7).
func Proof(shifts []int, jobs []api.Job) (from, to int, found bool, e api.Errno) {
	if e := ValidateJobs(shifts, jobs); e != api.OK {
		return 0, 0, false, e
	}
	for from := range shifts {
		for to := from; to < len(shifts); to++ {
			if spare(shifts, jobs, from, to) < 0 {
				return from, to, true, api.OK
			}
		}
	}
	return 0, 0, false, api.OK
}

// Spare returns the minutes of a window that are not needed in it (P7.7).
func Spare(shifts []int, jobs []api.Job, from, to int) (int, api.Errno) {
	if e := ValidateJobs(shifts, jobs); e != api.OK {
		return 0, e
	}
	if !isWindow(shifts, from, to) {
		return 0, api.ErrArg
	}
	return spare(shifts, jobs, from, to), api.OK
}
