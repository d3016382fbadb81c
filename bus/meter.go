package bus

// Meter counts accesses.
type Meter struct{ loads, stores, strays int }

// Loads tells how many loads were done.
func (m *Meter) Loads() int { return m.loads }

// Stores tells how many stores were done.
func (m *Meter) Stores() int { return m.stores }

// Strays tells how many accesses the bus refused.
func (m *Meter) Strays() int { return m.strays }
