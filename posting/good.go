package posting

import (
	"remit/api"
	"remit/ident"
	"slices"
	"strings"
)

const (
	leastLegs = 2
	// ownStart is what the program's own ids begin with: no id that a customer chooses has it.
	ownStart = "#"
	// point stands ahead of the code in the id of a system's account.
	point = "."
)

// Check tells whether a posting is good by itself.
func Check(p api.Posting) error {
	switch {
	case !isId(p.Id):
		return api.ErrId
	case p.Tick < 0 || p.Tick > api.MaxTick:
		return api.ErrTime
	case len(p.Note) > api.MaxText:
		return api.ErrLimit
	case len(p.Legs) < leastLegs || len(p.Legs) > api.MaxLegs:
		return api.ErrLegs
	case slices.ContainsFunc(p.Legs, isOfNoAccount):
		return api.ErrAccount
	case slices.ContainsFunc(p.Legs, isOfNoAmount):
		return api.ErrAmount
	case !differ(p.Legs) || !evenOut(p.Legs):
		return api.ErrLegs
	}
	return nil
}

// isId tells whether a posting may have this id: a customer's, or one of the program's own.
func isId(s string) bool {
	return len(s) <= api.MaxId && ident.Id(strings.TrimPrefix(s, ownStart)) == nil
}

func isOfNoAccount(leg api.Leg) bool {
	return ident.Check(leg.Account) != nil && !isSystem(leg.Account)
}

// isSystem tells whether this is the id of one of the system's accounts of some code.
func isSystem(account string) bool {
	// Without a point it is none: the empty text is what System tells where there is no account.
	_, code, found := strings.Cut(account, point)
	if !found {
		return false
	}
	for _, kind := range [...]int{api.Outside, api.Suspense, api.Clearing, api.Income} {
		if account == ident.System(kind, code) {
			return true
		}
	}
	return false
}

func isOfNoAmount(leg api.Leg) bool {
	return leg.Amount == 0 || leg.Amount < -api.MaxTotal || leg.Amount > api.MaxTotal
}

// differ tells whether no two legs have the same account.
func differ(legs []api.Leg) bool {
	for i, leg := range legs {
		isAgain := func(other api.Leg) bool { return other.Account == leg.Account }
		if slices.ContainsFunc(legs[:i], isAgain) {
			return false
		}
	}
	return true
}

// evenOut tells whether the amounts sum to 0. A sum that doesn't fit isn't 0, though what is left of it in 64 bits may be.
func evenOut(legs []api.Leg) bool {
	sum, err := sumOf(legs)
	return err == nil && sum == 0
}
