package span

import "gyttja/api"

// Walk tells where a chain leads, and the bound that it shows.
func Walk(l []api.Claim, chain []api.Step) (from, to, most int, e api.Errno) {
	if e := Check(l); e != api.OK {
		return 0, 0, 0, e
	}
	if len(chain) > api.MaxClaims {
		return 0, 0, 0, api.ErrLong
	}
	if len(chain) == 0 {
		return 0, 0, 0, api.ErrChain
	}
	for i, s := range chain {
		if !within(s.Claim, 0, len(l)-1) {
			return 0, 0, 0, api.ErrChain
		}
		begin, end, shown := along(l[s.Claim], s.Back)
		if i == 0 {
			from = begin
		} else if begin != to {
			return 0, 0, 0, api.ErrChain
		}
		to = end
		most += shown
	}
	return from, to, most, api.OK
}

// along tells where a step along a claim leads, and the bound that it shows.
func along(c api.Claim, back bool) (from, to, most int) {
	if back {
		return c.B, c.A, -c.Lo
	}
	return c.A, c.B, c.Hi
}

// CheckCycle reports whether a chain shows that claims contradict each other.
func CheckCycle(l []api.Claim, chain []api.Step) api.Errno {
	from, to, most, e := Walk(l, chain)
	if e != api.OK {
		return e
	}
	if from != to || most >= 0 {
		return api.ErrChain
	}
	return api.OK
}

// Cycle returns a chain that shows that claims contradict each other; none, if they do not.
func Cycle(l []api.Claim) ([]api.Step, api.Errno) {
	if e := Check(l); e != api.OK {
		return nil, e
	}
	return graphOf(l, everyClaim).cycle(), api.OK
}
