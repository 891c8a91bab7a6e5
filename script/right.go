package script

import (
	"strconv"

	"bilge/api"
	"bilge/edge"
	"bilge/quant"
)

// positive tells whether each number may stand as a quantity.
func positive(l [3]int) bool {
	return l[0] >= 0 && l[1] >= 0 && l[2] >= 0
}

// shown tells whether each amount has a text.
func shown(l [3]float64) bool {
	for _, f := range l {
		if _, ok := Show(f); !ok {
			return false
		}
	}
	return true
}

// rightPod tells whether the pod's fields may stand in a line.
func rightPod(p api.Pod) bool {
	return Word(p.Id) && Word(p.Image) && p.Size >= 0 && whole(p.Prio) && positive(p.Req) && positive(p.Lim)
}

// rightRaw tells whether the raw sample's fields may stand in a line.
func rightRaw(r api.Raw) bool {
	for _, u := range r.Use {
		if !Word(u.Id) || !shown(u.Amount) {
			return false
		}
	}
	return whole(r.Time) && shown(r.Avail)
}

// rightCrash tells whether the crash's fields may stand in a line.
func rightCrash(steps int, keep []int) bool {
	for _, n := range keep {
		if !whole(n) {
			return false
		}
	}
	return whole(steps)
}

// emptyRaw tells whether each field of the raw sample is zero; a 0 with its sign isn't.
func emptyRaw(r api.Raw) bool {
	for _, f := range r.Avail {
		if edge.Kind(f) != api.Nil {
			return false
		}
	}
	return r.Time == 0 && len(r.Use) == 0
}

// empty tells whether each field of the act but Do is zero.
func empty(a api.Act) bool {
	return a.Pod == api.Pod{} && a.Id == "" && emptyRaw(a.Raw) && len(a.Well) == 0 && a.Steps == 0 && len(a.Keep) == 0
}

// Right tells whether the act has a line.
func Right(a api.Act) bool {
	right := false
	// What the act's line tells is asked, and taken out of what has to be zero.
	rest := a
	switch a.Do {
	case api.ActAdmit:
		right = rightPod(a.Pod)
		rest.Pod = api.Pod{}
	case api.ActDelete:
		right = Word(a.Id)
		rest.Id = ""
	case api.ActTick:
		right = true
	case api.ActSample:
		right = rightRaw(a.Raw)
		rest.Raw = api.Raw{}
	case api.ActFeed:
		right = true
		rest.Well = nil
	case api.ActCrash:
		right = rightCrash(a.Steps, a.Keep)
		rest.Steps, rest.Keep = 0, nil
	}
	return right && empty(rest)
}

// quantities are the numbers' texts.
func quantities(l [3]int) []string {
	return []string{quant.Print(l[0]), quant.Print(l[1]), quant.Print(l[2])}
}

// amounts are the amounts' texts.
func amounts(l [3]float64) []string {
	var all []string
	for _, f := range l {
		s, _ := Show(f)
		all = append(all, s)
	}
	return all
}

// choice is the word for b.
func choice(b bool, yes, no string) string {
	if b {
		return yes
	}
	return no
}

// podRow is the line of a pod that asks to be admitted.
func podRow(p api.Pod) []string {
	words := []string{"admit", p.Id, p.Image, quant.Print(p.Size), strconv.Itoa(p.Prio), choice(p.Critical, "critical", "plain")}
	words = append(words, quantities(p.Req)...)
	if p.Lim == [3]int{} {
		return words
	}
	return append(words, quantities(p.Lim)...)
}

// rawRow is the line of a raw sample.
func rawRow(r api.Raw) []string {
	words := append([]string{"sample", strconv.Itoa(r.Time)}, amounts(r.Avail)...)
	for _, u := range r.Use {
		words = append(words, u.Id)
		words = append(words, amounts(u.Amount)...)
	}
	return words
}

// row is the fields of the right act's line.
func row(a api.Act) []string {
	var words []string
	switch a.Do {
	case api.ActAdmit:
		words = podRow(a.Pod)
	case api.ActDelete:
		words = []string{"delete", a.Id}
	case api.ActTick:
		words = []string{"tick"}
	case api.ActSample:
		words = rawRow(a.Raw)
	case api.ActFeed:
		words = []string{"feed"}
		for _, well := range a.Well {
			words = append(words, choice(well, "ok", "bad"))
		}
	case api.ActCrash:
		words = []string{"crash", strconv.Itoa(a.Steps)}
		for _, n := range a.Keep {
			words = append(words, strconv.Itoa(n))
		}
	}
	return words
}
