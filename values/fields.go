package values

import "strings"

const blanks = " \t\n"

// Fields tells the longest runs of bytes of a text that are no blanks.
func Fields(s string) []string {
	return strings.FieldsFunc(s, isBlank)
}

func isBlank(r rune) bool {
	return strings.ContainsRune(blanks, r)
}
