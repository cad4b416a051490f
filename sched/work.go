package sched

import (
	"slices"

	"mandrel/api"
)

// find is the job that a step is of, and which one of its steps it is; false, if there is no such step.
func (m *Machine) find(s api.Step) (*job, int, bool) {
	jobs := m.all()
	if s.Node < 0 || s.Node >= len(jobs) {
		return nil, 0, false
	}
	j := jobs[s.Node]
	i := s.Lo / m.size
	if i < 0 || i >= len(j.steps) || j.steps[i] != s {
		return nil, 0, false
	}
	return j, i, true
}

// mayWork tells whether steps of a job are left, and may be done.
func (m *Machine) mayWork(j *job) bool {
	isMissing := func(i int) bool { return !m.jobs[i].isWhole() }
	return !j.isAllDone() && j.firstError() == api.OK && !slices.ContainsFunc(j.reads, isMissing)
}

// inputs are the tensors that a step's node reads. What the step does not need of them is nought: others may write there at the same time.
func (m *Machine) inputs(j *job, s api.Step) []api.Tensor {
	var l []api.Tensor
	for _, name := range j.node.In {
		t, ok := m.given[name]
		if !ok {
			other := m.jobs[m.number[name]]
			lo, hi := j.needsOf(other, s)
			t = m.read(other, lo, hi)
		}
		l = append(l, t)
	}
	return l
}

// value is a tensor by its name, all of it.
func (m *Machine) value(name string) api.Tensor {
	if t, ok := m.given[name]; ok {
		return t
	}
	j := m.jobs[m.number[name]]
	return m.read(j, 0, j.count)
}

// read is a job's value, of which the elements from lo on, ahead of hi, come out of the arena, and the others are nought.
func (m *Machine) read(j *job, lo, hi int) api.Tensor {
	p := j.place(lo, hi)
	// What lies there was written as elements of this type.
	part, _ := Get(j.value.Type, m.arena[p.At:p.At+p.Len])
	data := make([]int64, j.count)
	copy(data[lo:hi], part)
	return api.Tensor{Type: j.value.Type, Dims: j.value.Dims, Data: data}
}

// write lays a step's elements into the arena, where nothing beside the step's own bytes may be reached.
func (m *Machine) write(j *job, s api.Step, elements []int64) {
	p := j.place(s.Lo, s.Hi)
	own := m.arena[p.At : p.At+p.Len : p.At+p.Len]
	// What a node makes are elements of its type.
	b, _ := Put(j.value.Type, elements)
	copy(own, b)
}
