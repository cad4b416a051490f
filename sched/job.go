package sched

import (
	"slices"
	"strings"
	"sync/atomic"

	"mandrel/api"
	"mandrel/kind"
)

// job is a node that is to be done, step by step.
type job struct {
	node  api.Node
	reads []int     // the jobs whose values it reads, in the order of its inputs, each once
	value api.Value // what it makes
	count int       // of the value's elements
	at    int       // where they lie in the arena
	steps []api.Step
	taken []atomic.Bool // whether each step is done, or is being done
	done  atomic.Int64  // how many steps are
	erred atomic.Int64  // the first error that was met
}

// plan gives a job its steps.
func (j *job) plan(steps []api.Step) {
	j.steps = steps
	j.taken = make([]atomic.Bool, len(steps))
}

// isAllDone tells whether there is no step left.
func (j *job) isAllDone() bool { return j.done.Load() == int64(len(j.steps)) }

// isWhole tells whether the value may be read.
func (j *job) isWhole() bool { return j.isAllDone() && j.firstError() == api.OK }

func (j *job) firstError() api.Errno { return api.Errno(j.erred.Load()) }

// appendLeft puts the steps that nobody has taken yet behind others. There may be many, and a run asks for them at each step: so they are laid into their list at once.
func (j *job) appendLeft(l []api.Step) []api.Step {
	l = slices.Grow(l, len(j.steps)-int(j.done.Load()))
	for i, s := range j.steps {
		if !j.taken[i].Load() {
			l = append(l, s)
		}
	}
	return l
}

// take tells whether a step is left, and is the caller's from now on.
func (j *job) take(i int) bool { return j.taken[i].CompareAndSwap(false, true) }

// note counts a step that is done, well or not. The error comes first: so nobody takes the value for whole.
func (j *job) note(e api.Errno) {
	if e != api.OK {
		j.erred.CompareAndSwap(int64(api.OK), int64(e))
	}
	j.done.Add(1)
}

// needsOf are the elements of another job's value that a step reads: from the first number on, ahead of the second one.
func (j *job) needsOf(other *job, s api.Step) (int, int) {
	if kind.InPlace(j.node.Op) {
		return s.Lo, s.Hi
	}
	return 0, other.count
}

// place are the bytes of some elements of the value.
func (j *job) place(lo, hi int) api.Place {
	each := bytesOf(j.value.Type)
	return api.Place{Name: strings.Clone(j.value.Name), At: j.at + lo*each, Len: (hi - lo) * each}
}
