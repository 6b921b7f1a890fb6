package mach

import "warrant/api"

// number is a number as a value.
func number(n int) api.Value { return api.Value{Kind: api.KindNum, X: n} }

func isNumber(v api.Value) bool { return v.Kind == api.KindNum }

func isPointer(v api.Value) bool { return isFixed(v) || v.Kind == api.KindRow }

// isFixed tells whether a value is a pointer to a region of which there is but one: two of these into the same region have an order and a distance.
func isFixed(v api.Value) bool {
	return v.Kind == api.KindStack || v.Kind == api.KindCtx || v.Kind == api.KindData
}
