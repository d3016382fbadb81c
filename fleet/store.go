package fleet

import "sync"

// store has what comes of each policy's text that a fleet has met.
type store struct {
	lock sync.Mutex
	by   map[string]*product
}

// find is what comes of a text, and whether it is met for the first time. The
// lock is not held while a text is compiled: other texts need not wait for it.
func (s *store) find(policy []byte) (*product, bool) {
	s.lock.Lock()
	defer s.lock.Unlock()
	if p := s.by[string(policy)]; p != nil {
		return p, false
	}
	p := &product{}
	s.by[string(policy)] = p
	return p, true
}
