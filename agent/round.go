package agent

import (
	"bilge/api"
	"bilge/cond"
	"bilge/grace"
	"bilge/image"
	"bilge/rank"
	"bilge/sat"
	"bilge/state"
	"bilge/sweep"
)

// round is an agent in a round, and what that gathers.
type round struct {
	*Agent
	events []api.Event
	holds  []bool  // which thresholds hold, by a fresh sample
	under  [3]bool // which signals are under pressure
}

// Tick is a round.
func (a *Agent) Tick() ([]api.Event, api.Errno) {
	if a.dead {
		return nil, api.ErrState
	}
	if a.state.Round >= api.MaxRound {
		return nil, api.ErrFull
	}
	a.state.Round++
	r := &round{Agent: a}
	r.signals()
	r.containers()
	r.images()
	r.evict()
	r.pods()
	r.lost()
	a.fresh = false
	return a.saved(r.events)
}

// tell notes an event.
func (r *round) tell(kind int, id string, n int) {
	r.events = append(r.events, api.Event{Kind: kind, Id: id, N: n})
}

// ask asks the container, in this round, and tells whether that went well.
func (r *round) ask(id string, what int) bool {
	well, err := r.world.Ask(id, what, r.state.Round)
	return well && err == api.OK
}

// ids are the Ids of the table.
func (r *round) ids() []string {
	var ids []string
	for _, e := range r.state.Pods {
		ids = append(ids, e.Pod.Id)
	}
	return ids
}

// used are the images of all pods of the table.
func (r *round) used() []string {
	var names []string
	for _, e := range r.state.Pods {
		names = append(names, e.Pod.Image)
	}
	return names
}

// signals steps the timers and the conditions.
func (r *round) signals() {
	var met [3]bool
	if r.fresh {
		avail := r.sample.Avail
		r.since = grace.Step(r.conf, r.since, avail, r.state.Round)
		r.holds = grace.Hold(r.conf, r.since, r.state.Round)
		r.under = grace.Signals(r.conf, r.holds)
		met = grace.Signals(r.conf, grace.Met(r.conf, avail))
	}
	var conds [3]api.Cond
	for signal, on := range r.state.On {
		conds[signal] = api.Cond{On: on, Calm: r.calm[signal]}
	}
	next, events := cond.All(conds, r.under, met, r.fresh, r.conf.Period)
	for signal, c := range next {
		r.state.On[signal], r.calm[signal] = c.On, c.Calm
	}
	r.events = append(r.events, events...)
}

// containers touches the images in use, and removes dead containers.
func (r *round) containers() {
	r.world.Touch(r.used(), r.state.Round)
	keep := r.conf.Dead
	if r.under[api.Disk] {
		keep = 0
	}
	for _, id := range sweep.Extra(r.world.Containers(), r.ids(), keep) {
		if r.ask(id, api.DoRemove) {
			r.tell(api.EvDead, id, 0)
		}
	}
}

// images collects images, if Disk is under pressure; that may be enough.
func (r *round) images() {
	if !r.under[api.Disk] {
		return
	}
	all, used, avail := r.world.Images(), r.used(), r.sample.Avail[api.Disk]
	edge := grace.Edge(r.conf, r.holds, api.Disk)
	// The outcomes that wait tell ahead of asking how many images are to be asked.
	_, free, asked := sweep.Collect(all, used, sat.Less(edge, avail), r.world.Waiting())
	for _, m := range image.Order(all, used)[:asked] {
		if well, err := r.world.Drop(m.Name); well && err == api.OK {
			r.tell(api.EvImage, m.Name, m.Size)
		}
	}
	if sat.Add(avail, free) >= edge {
		r.under[api.Disk] = false
	}
}

// ending tells whether a pod of the table is to end already.
func (r *round) ending() bool {
	for _, e := range r.state.Pods {
		if e.Phase == api.Terminating {
			return true
		}
	}
	return false
}

// evict lets the pod be to end that goes first, for the first signal under pressure.
func (r *round) evict() {
	if r.ending() {
		return
	}
signals:
	for signal, under := range r.under {
		if !under {
			continue
		}
		id, some := rank.First(signal, r.state.Pods, r.sample)
		for _, e := range r.state.Pods {
			if some && e.Pod.Id == id {
				r.set(e.Pod, api.Terminating)
				r.events = append(r.events, api.Event{Kind: api.EvEvict, Id: id, Signal: signal})
				break signals
			}
		}
	}
}

// pods goes through the table as it is ahead of that: each pod changes its own entry alone.
func (r *round) pods() {
	for _, e := range r.state.Pods {
		box, there := r.world.Box(e.Pod.Id)
		switch e.Phase {
		case api.Admitted:
			r.admitted(e.Pod, box, there)
		case api.Running:
			r.running(e.Pod, box, there)
		case api.Terminating:
			r.terminating(e.Pod, box)
		}
	}
}

// begin creates the pod's container.
func (r *round) begin(p api.Pod) {
	r.world.Create(p.Id, r.state.Round)
	r.tell(api.EvBegin, p.Id, 0)
}

// leave takes the pod off the table.
func (r *round) leave(p api.Pod, kind int) {
	r.state = state.Without(r.state, p.Id)
	r.tell(kind, p.Id, 0)
}

// admitted begins the pod; a container that is there is an earlier pod's.
func (r *round) admitted(p api.Pod, box api.Box, there bool) {
	switch {
	case !there:
		r.set(p, api.Running)
		r.begin(p)
	case box.State == api.Up:
		r.ask(p.Id, api.DoStop)
	default:
		r.ask(p.Id, api.DoRemove)
	}
}

// running asks the pod's container for the next thing on its way up.
func (r *round) running(p api.Pod, box api.Box, there bool) {
	if !there {
		r.begin(p)
		return
	}
	switch box.State {
	case api.Created:
		if _, came, _ := r.world.Pull(p.Id, p.Image, p.Size, r.state.Round); came {
			r.tell(api.EvPull, p.Image, p.Size)
		}
	case api.Pulled:
		if r.ask(p.Id, api.DoStart) {
			r.tell(api.EvUp, p.Id, 0)
		}
	case api.Down:
		r.ask(p.Id, api.DoRemove)
	case api.Broken:
		r.leave(p, api.EvFail)
	}
}

// terminating stops the pod's container; behind that the pod leaves.
func (r *round) terminating(p api.Pod, box api.Box) {
	if box.State == api.Up {
		r.ask(p.Id, api.DoStop)
		box, _ = r.world.Box(p.Id)
	}
	if box.State != api.Up {
		r.leave(p, api.EvGone)
	}
}

// lost stops the lost containers.
func (r *round) lost() {
	for _, id := range sweep.Lost(r.world.Containers(), r.ids()) {
		if r.ask(id, api.DoStop) {
			r.tell(api.EvStop, id, 0)
		}
	}
}
