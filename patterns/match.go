package patterns

import (
	"strings"

	"glean/api"
)

// row tells, for one place, how far a match goes that goes on with an atom
// there: for the atoms that take the byte at the place; else it says nothing.
type row struct {
	live  set
	reach [api.MaxPattern]int
}

// farthest is the greatest end among those of the atoms, and least.
func (w *row) farthest(atoms set, least int) int {
	for atom := range (atoms & w.live).all {
		least = max(least, w.reach[atom])
	}
	return least
}

// ends tells for each place of the text the end of the match there, or none.
// It goes from the text's end to its begin: so all places are done in one
// walk, and no pattern makes it try the same way twice.
func (p *Pattern) ends(text string) []int {
	ends := make([]int, len(text)+1)
	here, behind := &row{}, &row{}
	for place := len(text); place >= 0; place-- {
		p.fill(here, text, place, behind)
		whole := p.whole[spotOf(place, len(text))]
		least := none
		if whole.empty {
			least = place
		}
		ends[place] = here.farthest(whole.first, least)
		here, behind = behind, here
	}
	return ends
}

// fill makes the row of a place out of the row of the place behind it.
func (p *Pattern) fill(here *row, text string, place int, behind *row) {
	here.live = 0
	if place == len(text) {
		return
	}
	here.live = p.takes[text[place]]
	spot := spotOf(place+1, len(text))
	for atom := range here.live.all {
		least := none
		if p.whole[spot].last.has(atom) {
			least = place + 1
		}
		here.reach[atom] = behind.farthest(p.follow[spot][atom], least)
	}
}

// Find tells the least place, from or later, at which there is a match, and
// the match's length; -1 and 0 if there is none.
func (p *Pattern) Find(text string, from int) (int, int) {
	ends := p.ends(text)
	for place := from; place <= len(text); place++ {
		if ends[place] != none {
			return place, ends[place] - place
		}
	}
	return -1, 0
}

// Swap lays with down in the place of each match.
func (p *Pattern) Swap(with, text string) string {
	var out strings.Builder
	ends := p.ends(text)
	swapped := none // where the last match ended that was swapped and not empty
	for place := 0; place <= len(text); {
		if ends[place] > place {
			out.WriteString(with)
			place = ends[place]
			swapped = place
			continue
		}
		if ends[place] == place && swapped != place {
			out.WriteString(with)
		}
		if place < len(text) {
			out.WriteByte(text[place])
		}
		place++
	}
	return out.String()
}

// Split tells the pieces of the text between the matches that are not empty.
func (p *Pattern) Split(text string) []string {
	if text == "" {
		return nil
	}
	var pieces []string
	ends := p.ends(text)
	begin := 0
	for place := 0; place < len(text); {
		if ends[place] <= place {
			place++
			continue
		}
		pieces = append(pieces, strings.Clone(text[begin:place]))
		place = ends[place]
		begin = place
	}
	return append(pieces, strings.Clone(text[begin:]))
}
