package shape

import "atlas/api"

// AreFeatures tells whether each is a feature, and no two have the same number.
func AreFeatures(list []api.Feature) bool {
	var seen [api.MaxId + 1]bool
	for _, f := range list {
		if !IsFeature(f) || seen[f.Id] {
			return false
		}
		seen[f.Id] = true
	}
	return true
}

// IsFeature tells whether all that f says may be.
func IsFeature(f api.Feature) bool {
	return IsId(f.Id) &&
		within(f.Height, -api.MaxHeight, api.MaxHeight) &&
		within(f.Colour, 1, api.MaxColour) &&
		mayHave(f.Kind, len(f.Places)) &&
		inWorld(f.Places)
}

// IsId tells whether a feature may have this number.
func IsId(n int) bool {
	return within(n, 1, api.MaxId)
}

func mayHave(kind, places int) bool {
	switch kind {
	case api.Point:
		return places == 1
	case api.Line:
		return within(places, 2, api.MaxPlaces)
	case api.Area:
		return within(places, 3, api.MaxPlaces)
	}
	return false
}

func inWorld(places []api.Place) bool {
	for _, p := range places {
		if !within(p.X, 0, api.World-1) || !within(p.Y, 0, api.World-1) {
			return false
		}
	}
	return true
}

func within(n, least, most int) bool {
	return least <= n && n <= most
}
