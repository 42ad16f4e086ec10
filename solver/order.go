package solver

const (
	firstStep = 1 << 8
	mostStep  = 1 << 24
	scale     = 1 << 16
)

// An order holds names for choices, and gives the one of most worth out first.
// The worth of a name rises with each clause that is learned by way of it, and
// by more the later that is.
type order struct {
	worth []int // of each name
	step  int   // by how much it rises now
	heap  []int // names; the one at i is of no less worth than those at 2i+1 and 2i+2
	place []int // of each name, where it is in the heap, or none
}

func newOrder(names int) order {
	o := order{step: firstStep}
	o.worth = make([]int, names)
	o.heap = make([]int, names)
	o.place = make([]int, names)
	for i := 0; i < names; i++ {
		o.heap[i] = i
		o.place[i] = i
	}
	return o
}

// add adds the next name.
func (o *order) add() {
	name := len(o.worth)
	o.worth = append(o.worth, 0)
	o.place = append(o.place, none)
	o.push(name)
}

// push puts a name in, unless it is there.
func (o *order) push(name int) {
	if o.place[name] != none {
		return
	}
	at := len(o.heap)
	o.heap = append(o.heap, name)
	o.place[name] = at
	o.lift(at)
}

// pop takes the name of most worth out, or tells none.
func (o *order) pop() int {
	if len(o.heap) == 0 {
		return none
	}
	name := o.heap[0]
	last := len(o.heap) - 1
	o.swap(0, last)
	o.heap = o.heap[:last]
	o.place[name] = none
	o.sink(0)
	return name
}

// raise lets the worth of a name rise.
func (o *order) raise(name int) {
	o.worth[name] += o.step
	at := o.place[name]
	if at != none {
		o.lift(at)
	}
}

// age lets the worth that names have now count for less. All is scaled down in
// time, so that no worth grows without end.
func (o *order) age() {
	o.step += o.step / 16
	if o.step < mostStep {
		return
	}
	o.step /= scale
	for i := 0; i < len(o.worth); i++ {
		o.worth[i] /= scale
	}
}

func (o *order) lift(at int) {
	for at > 0 && o.isBetter(at, (at-1)/2) {
		o.swap(at, (at-1)/2)
		at = (at - 1) / 2
	}
}

func (o *order) sink(at int) {
	next := o.betterBelow(at)
	for next != none {
		o.swap(at, next)
		at = next
		next = o.betterBelow(at)
	}
}

// betterBelow tells the best place below another one that is better than it, or
// none.
func (o *order) betterBelow(at int) int {
	best := at
	for next := 2*at + 1; next <= 2*at+2 && next < len(o.heap); next++ {
		if o.isBetter(next, best) {
			best = next
		}
	}
	if best == at {
		return none
	}
	return best
}

func (o *order) isBetter(i, j int) bool {
	return o.worth[o.heap[i]] > o.worth[o.heap[j]]
}

func (o *order) swap(i, j int) {
	name := o.heap[i]
	other := o.heap[j]
	o.heap[i] = other
	o.heap[j] = name
	o.place[other] = i
	o.place[name] = j
}
