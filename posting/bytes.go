package posting

import (
	"remit/api"
	"remit/wire"
)

// Encode is a posting's bytes.
func Encode(p api.Posting) (string, error) {
	if err := Check(p); err != nil {
		return "", err
	}
	w := wire.New()
	w.Text(p.Id)
	w.Uint(uint64(p.Tick))
	w.Text(p.Note)
	w.Uint(uint64(len(p.Legs)))
	for _, leg := range p.Legs {
		w.Text(leg.Account)
		w.Int(leg.Amount)
	}
	return w.Out(), nil
}

// Decode is the posting of these bytes.
func Decode(s string) (api.Posting, error) {
	p, err := read(s)
	if err == nil {
		err = Check(p)
	}
	if err != nil {
		return api.Posting{}, err
	}
	return p, nil
}

// read is the posting that the bytes tell, good or not; beside an error it is what was read ahead of that.
func read(s string) (api.Posting, error) {
	var p api.Posting
	var err error
	r := wire.Read(s)
	if p.Id, err = r.Text(api.MaxId); err != nil {
		return p, err
	}
	if p.Tick, err = r.Upto(api.MaxTick); err != nil {
		return p, err
	}
	if p.Note, err = r.Text(api.MaxText); err != nil {
		return p, err
	}
	if p.Legs, err = readLegs(r); err != nil {
		return p, err
	}
	return p, r.Done()
}

func readLegs(r *wire.Reader) ([]api.Leg, error) {
	count, err := r.Upto(api.MaxLegs)
	if err != nil {
		return nil, err
	}
	legs := make([]api.Leg, count)
	for i := range legs {
		if legs[i].Account, err = r.Text(api.MaxAccount); err != nil {
			return nil, err
		}
		if legs[i].Amount, err = r.Int(); err != nil {
			return nil, err
		}
	}
	return legs, nil
}
