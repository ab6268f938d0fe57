package sheet

import (
	"strings"

	"ferrule/api"
	"ferrule/rangeexpr"
	"ferrule/semver"
)

// IndexText is an index's text.
func IndexText(x api.Index) string {
	var t strings.Builder
	for _, p := range x.Packs {
		tell(&t, wordPack, p.Name)
		for _, r := range p.Releases {
			tell(&t, releaseWord(r), semver.Text(r.V))
			tellDeps(&t, wordNeeds, r.Needs)
			tellDeps(&t, wordBans, r.Bans)
		}
	}
	return t.String()
}

// RootsText is roots' text.
func RootsText(l []api.Dep) string {
	var t strings.Builder
	tellDeps(&t, wordRoot, l)
	return t.String()
}

// PinsText is pins' text.
func PinsText(l []api.Pin) string {
	var t strings.Builder
	for _, p := range l {
		tell(&t, wordPin, p.Name, semver.Text(p.V))
	}
	return t.String()
}

func tellDeps(t *strings.Builder, word string, l []api.Dep) {
	for _, d := range l {
		tell(t, word, d.Name, rangeexpr.Text(d.R))
	}
}

// tell adds a line of parts.
func tell(t *strings.Builder, word string, parts ...string) {
	t.WriteString(word)
	for _, p := range parts {
		t.WriteByte(blank)
		t.WriteString(p)
	}
	t.WriteByte(ended)
}

func releaseWord(r api.Release) string {
	if r.Yanked {
		return wordYanked
	}
	return wordVersion
}
