package model

import (
	"slices"
	"strings"

	"ferrule/api"
	"ferrule/prec"
)

// Plain is an index in new memory, its packages by their names, and their releases in the full order; those that are alike as they stood.
func Plain(x api.Index) api.Index {
	packs := slices.Clone(x.Packs)
	slices.SortStableFunc(packs, byName)
	for i := range packs {
		packs[i].Releases = copied(packs[i].Releases, copiedRelease)
		slices.SortStableFunc(packs[i].Releases, byVersion)
	}
	return api.Index{Packs: packs}
}

// IsPlain tells whether an index stands as Plain of it does.
func IsPlain(x api.Index) bool {
	return slices.IsSortedFunc(x.Packs, byName) && !slices.ContainsFunc(x.Packs, func(p api.Pack) bool {
		return !slices.IsSortedFunc(p.Releases, byVersion)
	})
}

func byName(a, b api.Pack) int {
	return strings.Compare(a.Name, b.Name)
}

func byVersion(a, b api.Release) int {
	return prec.Full(a.V, b.V)
}

// copied is a list in new memory, its elements too: whoever writes into an answer changes nothing else.
func copied[T any](l []T, one func(T) T) []T {
	c := slices.Clone(l)
	for i := range c {
		c[i] = one(c[i])
	}
	return c
}

func copiedRelease(r api.Release) api.Release {
	r.V = copiedVersion(r.V)
	r.Needs = copied(r.Needs, copiedDep)
	r.Bans = copied(r.Bans, copiedDep)
	return r
}

func copiedVersion(v api.Version) api.Version {
	v.Pre = slices.Clone(v.Pre)
	v.Build = slices.Clone(v.Build)
	return v
}

func copiedDep(d api.Dep) api.Dep {
	all := []api.Range{d.R}
	// A list, and no function that calls itself: a range that nobody read may be nested deeper than the calls that a stack has room for.
	todo := [][]api.Range{all}
next:
	if len(todo) == 0 {
		d.R = all[0]
		return d
	}
	l := todo[len(todo)-1]
	todo = todo[:len(todo)-1]
	for i := range l {
		l[i].V = copiedVersion(l[i].V)
		l[i].L = slices.Clone(l[i].L)
		todo = append(todo, l[i].L)
	}
	goto next
}
