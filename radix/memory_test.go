package radix_test

import (
	"testing"

	"trellis/api"
	"trellis/check"
	"trellis/radix"
)

// samples are what the memory tests hand in.
func samples() []list {
	return []list{nil, {0, 0}, {1}, {5}, {2, 0}, {1, 2, 0}, {top, top}, {0, 0, 1}, append(check.Mixed(20, 5), 0, 0)}
}

// wordsOf is a text as a list, a word for each byte: so calls that answer texts are held against R4 too.
func wordsOf(text string) list {
	all := make(list, len(text))
	for i := range all {
		all[i] = uint64(text[i])
	}
	return all
}

// listCalls are all calls of the layer; those that take a text take one that is written of a ahead.
func listCalls() map[string]func(a, b list) list {
	text := func(base int) func(a, b list) list {
		return func(a, b list) list {
			got, _ := radix.Text(a, base)
			return wordsOf(got)
		}
	}
	read := func(base int, behind string) func(a, b list) list {
		return func(a, b list) list {
			s, _ := radix.Text(a, base)
			got, _ := radix.Read(s+behind, base)
			return got
		}
	}
	answer := func(got list, e api.Errno) list { return got }
	return map[string]func(a, b list) list{
		"Text(a, 1)":         text(1),
		"Text(a, 2)":         text(2),
		"Text(a, 10)":        text(10),
		"Text(a, 16)":        text(16),
		"Text(a, 36)":        text(36),
		"Dec(a)":             func(a, b list) list { return wordsOf(radix.Dec(a)) },
		"Digits(a)":          func(a, b list) list { return list{uint64(radix.Digits(a))} },
		"Grouped(a)":         func(a, b list) list { return wordsOf(radix.Grouped(a)) },
		"Read(.., 1)":        read(1, ""),
		"Read(.., 2)":        read(2, ""),
		"Read(.., 10)":       read(10, ""),
		"Read(.., 16)":       read(16, ""),
		"Read(.., 36)":       read(36, ""),
		"Read(.. + ' ', 36)": read(36, " "),
		"ReadDec(..)":        func(a, b list) list { return answer(radix.ReadDec(radix.Dec(a))) },
		"ReadGrouped(..)":    func(a, b list) list { return answer(radix.ReadGrouped(radix.Grouped(a))) },
	}
}

// R4: what is handed in stays as it is, spare room included, and an answer has memory of its own, its spare room too.
func TestMemory(t *testing.T) {
	check.Memory(t, listCalls(), samples())
}
