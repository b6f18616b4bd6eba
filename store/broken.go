package store

// broken is what the reading of a disk gives up with, by panic, where the bytes are nobody's: how deep inside it stands makes no difference to Open, which catches it.
type broken struct{}

// need gives up where what must be isn't.
func need(ok bool) {
	if !ok {
		panic(broken{})
	}
}

// must is a value, and gives up where there is an error instead.
func must[T any](value T, err error) T {
	need(err == nil)
	return value
}
