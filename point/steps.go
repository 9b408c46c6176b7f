package point

import "chirograph/api"

// steps answers a closure that is handed one step after the other: it takes them
// as long as none goes wrong, and keeps the first error, which it answers from
// then on.
func steps() func(step func() api.Errno) api.Errno {
	why := api.OK
	return func(step func() api.Errno) api.Errno {
		if why == api.OK {
			why = step()
		}
		return why
	}
}
