package tree

import "sync"

// A list may be of any length, so that only so many of its nodes are written at a time.
const writersAtOnce = 256

// answers is what the goroutines of one call of Inners share.
type answers struct {
	mutex sync.Mutex
	done  int
	texts []string
}

// put keeps the answer for a place in the list.
func (a *answers) put(at int, text string) {
	a.mutex.Lock()
	defer a.mutex.Unlock()
	a.texts[at] = text
	a.done++
}

// count tells how many are done.
func (a *answers) count() int {
	a.mutex.Lock()
	defer a.mutex.Unlock()
	return a.done
}

// Inners writes what each node of a list holds, whose nodes are all there.
func (t *Nodes) Inners(l []int) []string {
	shared := answers{texts: make([]string, len(l))}
	for done := 0; done < len(l); done = shared.count() {
		t.writeSome(&shared, l, done, min(done+writersAtOnce, len(l)))
	}
	return shared.texts
}

// writeSome writes each node from one place in the list up to another in a goroutine of its own, and waits for all of them.
func (t *Nodes) writeSome(shared *answers, l []int, from int, to int) {
	var writers sync.WaitGroup
	for at := from; at < to; at++ {
		writers.Add(1)
		go func() {
			defer writers.Done()
			shared.put(at, t.Inner(l[at]))
		}()
	}
	writers.Wait()
}
