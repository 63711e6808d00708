package grammar

import "slices"

// set: of words, or of rules' names.
type set map[string]struct{}

func (s set) add(w string) { s[w] = struct{}{} }

func (s set) has(w string) bool {
	_, ok := s[w]
	return ok
}

func (s set) addAll(more set) {
	for w := range more {
		s.add(w)
	}
}

// leastShared: the least word that both sets have.
func leastShared(a, b set) (string, bool) {
	var shared []string
	for w := range a {
		if b.has(w) {
			shared = append(shared, w)
		}
	}
	if len(shared) == 0 {
		return "", false
	}
	return slices.Min(shared), true
}
