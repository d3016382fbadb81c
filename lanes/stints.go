package lanes

import "bulkhead/api"

// nobody is the subject of a tick that is no one's.
const nobody = -1

// At tells who runs at an offset of a row of stints, and for how many ticks more.
func At(stints []api.Stint, major, offset int) (int, int) {
	if offset < 0 || offset >= major {
		return nobody, 0
	}
	// who has the run that goes up to end, over all its neighbours by now.
	who, end := nobody, 0
	for _, s := range stints {
		if s.Ticks < 1 {
			continue
		}
		next := max(s.Subject, nobody)
		if next != who && end > offset {
			return who, end - offset
		}
		// What is added is cut at major, so that no sum leaves an int.
		who, end = next, end+min(s.Ticks, major-end)
	}
	if who != nobody && end > offset {
		return who, end - offset
	}
	return nobody, major - offset
}
