// Package modules writes modules into bytes and reads them out of bytes. What
// it writes and what it reads is within a module's limits.
package modules

import (
	"glean/api"
	"glean/patterns"
)

// head is how a module's bytes begin.
const head = "GL\x01"

// The numbers of the sections, in their order.
const (
	textsSection = iota + 1
	patternsSection
	globalsSection
	arraysSection
	funcsSection
)

// Entries is how many functions are played by themselves: those that come
// first. A module has them all.
const Entries = 3

// maxParams is how many parameters the function of this number may have: none
// if it is played by itself, as nobody is there who could give arguments.
func maxParams(function int) int {
	if function < Entries {
		return 0
	}
	return api.MaxParams
}

// isPattern tells whether a text is a pattern, of a right length.
func isPattern(text string) bool {
	_, _, errno := patterns.Read(text)
	return errno == api.OK
}

// sum is the sum of bytes, as it stands behind them.
func sum(bytes string) string {
	const factor, modulus = 257, 1000003
	total := uint32(1)
	for i := range len(bytes) {
		total = (total*factor + uint32(bytes[i]) + 1) % modulus
	}
	return string([]byte{byte(total), byte(total >> 8), byte(total >> 16)})
}
