// Package talk: what clients and servers say to each other, and what servers write into their logs, as texts: a word and numbers, with a space between.
package talk

import (
	"slices"
	"strconv"
	"strings"
)

// join makes a text of a word and the numbers in these places.
func join(word string, places []*int) string {
	text := word
	for _, n := range places {
		text += " " + strconv.Itoa(*n)
	}
	return text
}

// fill puts the numbers of a text into these places, as many as there are.
func fill(text string, places []*int) {
	words := strings.Split(text, " ")
	for i, n := range places {
		if i+1 < len(words) {
			*n, _ = strconv.Atoi(words[i+1])
		}
	}
}

// kindOf tells which kind a text's first word names; 0, if none.
func kindOf(text string, names []string) int {
	word, _, _ := strings.Cut(text, " ")
	return max(slices.Index(names, word), 0)
}
