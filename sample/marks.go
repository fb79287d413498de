package sample

import (
	"strings"

	"portcullis/api"
)

// Marked: a text without its marks "@", and where they stood.
func Marked(s string) (string, []int) {
	var text strings.Builder
	var marks []int
	for i, part := range strings.Split(s, "@") {
		if i > 0 {
			marks = append(marks, text.Len())
		}
		text.WriteString(part)
	}
	return text.String(), marks
}

// Wanted: what is told to be wrong at some places: of each, parted by "|", errors, parted by ",", each a word and a name.
func Wanted(told string, marks []int) []api.Diag {
	var list []api.Diag
	for i, one := range strings.Split(told, "|") {
		for _, wrong := range strings.Split(one, ",") {
			word, name, _ := strings.Cut(strings.TrimSpace(wrong), " ")
			if word != "" {
				list = append(list, api.Diag{At: marks[i], Code: code(word), Name: name})
			}
		}
	}
	return list
}

// code: the error of a word.
func code(word string) api.Errno {
	codes := map[string]api.Errno{"many": api.ErrMany, "twice": api.ErrTwice, "none": api.ErrNone, "kind": api.ErrKind, "type": api.ErrType, "return": api.ErrReturn, "level": api.ErrLevel, "order": api.ErrOrder, "label": api.ErrLabel, "held": api.ErrHeld, "race": api.ErrRace, "cycle": api.ErrCycle}
	return codes[word]
}
