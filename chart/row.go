package chart

import (
	"remit/api"
	"remit/ident"
	"remit/money"
	"remit/wire"
)

const (
	// space is the first part of every account's key, which parts the accounts from the other rows of a store.
	space = "a"
	// thawed and frozen are the two bytes that tell whether an account is frozen.
	thawed = 0
	frozen = 1
	// codeSize is how long a currency's code is.
	codeSize = 3
)

// Encode is an account's row.
func Encode(a api.Account) (string, error) {
	if !isGood(a) {
		return "", api.ErrForm
	}
	return rowOf(a), nil
}

// Decode is the account of an id's row.
func Decode(id, row string) (api.Account, error) {
	a := read(row)
	a.Id = id
	// A row that no good account has isn't made again of what was read of it.
	if again, err := Encode(a); err != nil || again != row {
		return api.Account{}, api.ErrCorrupt
	}
	return a, nil
}

// rowOf is the row of a good account.
func rowOf(a api.Account) string {
	flag := byte(thawed)
	if a.Frozen {
		flag = frozen
	}
	w := wire.New()
	w.Byte(byte(a.Kind))
	w.Byte(flag)
	w.Text(a.Currency)
	w.Fixed(uint64(a.Balance))
	w.Fixed(uint64(a.Held))
	return w.Out()
}

// read is what a row tells of an account, if it is an account's row. Of other rows it is anything: so no error is asked for here.
func read(row string) api.Account {
	r := wire.Read(row)
	kind, _ := r.Byte()
	flag, _ := r.Byte()
	currency, _ := r.Text(codeSize)
	balance, _ := r.Fixed()
	held, _ := r.Fixed()
	return api.Account{
		Currency: currency,
		Kind:     int(kind),
		Frozen:   flag == frozen,
		Balance:  int64(balance),
		Held:     int64(held),
	}
}

// isGood tells whether an account may have a row.
func isGood(a api.Account) bool {
	if !money.Code(a.Currency) {
		return false
	}
	switch a.Kind {
	case api.Customer:
		return ident.Check(a.Id) == nil && mayHave(a.Balance, a.Held)
	case api.Outside, api.Suspense, api.Clearing, api.Income:
		return a.Id == ident.System(a.Kind, a.Currency) && !a.Frozen && a.Held == 0 && isTotal(a.Balance)
	}
	return false
}

// mayHave tells whether a customer may have this balance and this held amount. Each may be as great as numbers get: so their sum is a checked one.
func mayHave(balance, held int64) bool {
	both, err := money.Add(balance, held)
	return err == nil && balance >= 0 && held >= 0 && both <= api.MaxBalance
}

// isTotal tells whether a balance is within the bounds of every balance.
func isTotal(balance int64) bool { return -api.MaxTotal <= balance && balance <= api.MaxTotal }
