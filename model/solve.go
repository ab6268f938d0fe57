package model

import (
	"slices"
	"strings"

	"ferrule/api"
	"ferrule/norm"
	"ferrule/semver"
)

// Release is the first release of the first package of a name whose version is the same, in new memory, if there is one.
func Release(x api.Index, name string, v api.Version) (api.Release, bool) {
	r, ok := find(x, api.Pin{Name: name, V: v})
	if !ok {
		return api.Release{}, false
	}
	return copiedRelease(r), true
}

// Solves tells whether an index and roots are right, and pins a solution that solves the roots.
func Solves(x api.Index, roots []api.Dep, s []api.Pin) bool {
	if !right(x, roots, s) || !rising(s) {
		return false
	}
	chosen := map[string]api.Version{}
	for _, p := range s {
		chosen[p.Name] = p.V
	}
	met := func(d api.Dep) bool {
		v, ok := chosen[d.Name]
		return ok && norm.Has(d.R, v)
	}
	return every(roots, met) && every(s, func(p api.Pin) bool {
		r, ok := find(x, p)
		return ok && !r.Yanked && every(r.Needs, met) && !slices.ContainsFunc(r.Bans, met)
	})
}

// find is the release that a pin names, in the index's memory, if it is there.
func find(x api.Index, p api.Pin) (api.Release, bool) {
	for _, pack := range x.Packs {
		// The first package of the name alone, whatever others have.
		if pack.Name == p.Name {
			return published(pack.Releases, p.V)
		}
	}
	return api.Release{}, false
}

// published is the first release whose version is the same, if there is one.
func published(l []api.Release, v api.Version) (api.Release, bool) {
	for _, r := range l {
		if semver.Same(r.V, v) {
			return r, true
		}
	}
	return api.Release{}, false
}

// right tells whether an index, roots and pins are.
func right(x api.Index, roots []api.Dep, s []api.Pin) bool {
	_, ofIndex := Check(x)
	_, ofRoots := Roots(roots)
	_, ofPins := Pins(s)
	return ofIndex == api.OK && ofRoots == api.OK && ofPins == api.OK
}

// rising tells whether right pins do so by their names: no two are the same.
func rising(s []api.Pin) bool {
	return slices.IsSortedFunc(s, func(a, b api.Pin) int { return strings.Compare(a.Name, b.Name) })
}

// every tells whether all elements are as asked for.
func every[T any](l []T, is func(one T) bool) bool {
	return !slices.ContainsFunc(l, func(one T) bool { return !is(one) })
}
