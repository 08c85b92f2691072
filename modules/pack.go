package modules

import (
	"glean/api"
	"glean/numbers"
)

// Pack writes a module into bytes; ErrLimit, if it is not within its limits or
// its bytes would be too many.
func Pack(m api.Module) (string, api.Errno) {
	if !isWithinLimits(m) {
		return "", api.ErrLimit
	}
	body := string(appendSections([]byte(head), m))
	packed := body + sum(body)
	if len(packed) > api.MaxModule {
		return "", api.ErrLimit
	}
	return packed, api.OK
}

func isWithinLimits(m api.Module) bool {
	return areTexts(m.Texts) && arePatterns(m.Patterns) &&
		isBetween(m.Globals, 0, api.MaxTable) && isBetween(m.Arrays, 0, api.MaxTable) && areFuncs(m.Funcs)
}

func isBetween(number, low, high int) bool {
	return low <= number && number <= high
}

func areTexts(texts []string) bool {
	if len(texts) > api.MaxTable {
		return false
	}
	for _, text := range texts {
		if len(text) > api.MaxText {
			return false
		}
	}
	return true
}

func arePatterns(texts []string) bool {
	if len(texts) > api.MaxTable {
		return false
	}
	for _, text := range texts {
		if !isPattern(text) {
			return false
		}
	}
	return true
}

func areFuncs(funcs []api.Func) bool {
	if !isBetween(len(funcs), Entries, api.MaxTable) {
		return false
	}
	for i, f := range funcs {
		if !isBetween(f.Params, 0, maxParams(i)) || !isBetween(f.Locals, f.Params, api.MaxLocals) || len(f.Code) > api.MaxCode {
			return false
		}
	}
	return true
}

func appendSections(out []byte, m api.Module) []byte {
	out = appendSection(out, textsSection, appendTexts(nil, m.Texts))
	out = appendSection(out, patternsSection, appendTexts(nil, m.Patterns))
	out = appendSection(out, globalsSection, numbers.Append(nil, m.Globals))
	out = appendSection(out, arraysSection, numbers.Append(nil, m.Arrays))
	return appendSection(out, funcsSection, appendFuncs(nil, m.Funcs))
}

func appendSection(out []byte, number byte, content []byte) []byte {
	out = append(out, number)
	out = numbers.Append(out, len(content))
	return append(out, content...)
}

func appendTexts(out []byte, texts []string) []byte {
	out = numbers.Append(out, len(texts))
	for _, text := range texts {
		out = appendText(out, text)
	}
	return out
}

func appendText(out []byte, text string) []byte {
	out = numbers.Append(out, len(text))
	return append(out, text...)
}

func appendFuncs(out []byte, funcs []api.Func) []byte {
	out = numbers.Append(out, len(funcs))
	for _, f := range funcs {
		out = numbers.Append(out, f.Params)
		out = numbers.Append(out, f.Locals)
		out = appendText(out, f.Code)
	}
	return out
}
