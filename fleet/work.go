package fleet

import "sync"

// known is what comes of each job's policy. All of them are counted ahead of the
// first that is compiled: a text counts when it is handed in.
func (f *Fleet) known(jobs []Job) []*product {
	var list []*product
	for _, j := range jobs {
		p, fresh := f.store.find(j.Policy)
		if fresh {
			f.built.Add(1)
		}
		list = append(list, p)
	}
	return list
}

// work has the jobs done. Each answer has a place of its own, so that nothing is
// told by which worker came first.
func (f *Fleet) work(jobs []Job, policies []*product) [][]byte {
	out := make([][]byte, len(jobs))
	numbers := make(chan int)
	var all sync.WaitGroup
	for range min(f.workers, len(jobs)) {
		all.Add(1)
		go func() {
			defer all.Done()
			for n := range numbers {
				out[n] = policies[n].run(jobs[n])
			}
		}()
	}
	for n := range jobs {
		numbers <- n
	}
	close(numbers)
	all.Wait()
	return out
}
