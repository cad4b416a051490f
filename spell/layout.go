package spell

import (
	"strings"

	"mandrel/api"
)

// Layout is a layout of a text such as `16 | a 0 8, b 8 8, c 8 8 | c b`: its size, its places, its pairs, the new one of each first.
func Layout(text string) api.Layout {
	part := strings.Split(text, "|")
	if len(part) != 3 {
		panic(text)
	}
	l := api.Layout{Size: int(number(strings.TrimSpace(part[0])))}
	for _, piece := range pieces(part[1], ",") {
		words := wordsOf(piece, 3)
		l.Places = append(l.Places, api.Place{Name: words[0], At: int(number(words[1])), Len: int(number(words[2]))})
	}
	for _, piece := range pieces(part[2], ",") {
		words := wordsOf(piece, 2)
		l.Pairs = append(l.Pairs, api.Pair{New: words[0], Old: words[1]})
	}
	return l
}

// wordsOf are the words of a text that has so many.
func wordsOf(text string, many int) []string {
	words := strings.Fields(text)
	if len(words) != many {
		panic(text)
	}
	return words
}
