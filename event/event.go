// Package event tells which events are valid, for all layers: see shared/doc/06-years.md.
package event

import "gyttja/api"

// IsValid reports whether an event is valid.
func IsValid(v api.Event) bool {
	names := within(v.Id, 1, api.MaxSource) && within(v.Kind, 0, 99) && within(v.Mark, 0, api.MaxMark)
	return names && within(v.Lo, -api.MaxYears, v.Hi) && v.Hi <= api.MaxYears
}

func within(n, lo, hi int) bool { return lo <= n && n <= hi }
