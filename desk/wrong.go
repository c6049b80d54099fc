package desk

import "gyttja/api"

// wrong is what is thrown: an error, and the place, or the line, that is not as it must be.
type wrong struct {
	at int
	e  api.Errno
}

// attempt returns what a function makes, or what is wrong.
func attempt[T any](do func() T) (made T, at int, e api.Errno) {
	defer func() {
		if w, ok := recover().(wrong); ok {
			at, e = w.at, w.e
		}
	}()
	return do(), 0, api.OK
}

// refuse throws an error, if it is one.
func refuse(e api.Errno) {
	if e != api.OK {
		panic(wrong{0, e})
	}
}

// sure returns what a function made, if no error came with it.
func sure[T any](made T, e api.Errno) T {
	refuse(e)
	return made
}

// parsed likewise returns what was read from a text; the line does not matter.
func parsed[T any](made T, _ int, e api.Errno) T { return sure(made, e) }
