package tree

import (
	"strconv"

	"troupe/api"
	"troupe/fault"
)

// Write is a term's text.
func Write(t api.Term) (string, error) {
	if err := Right(t); err != nil {
		return "", fault.At("write", 0, err)
	}
	return string(write(nil, t)), nil
}

// write puts the text of a term that may be behind text.
func write(text []byte, t api.Term) []byte {
	letter := byte('r')
	switch t.Kind {
	case api.Pid:
		letter = 'p'
		fallthrough
	case api.Ref:
		text = append(text, '#', letter)
		fallthrough
	case api.Int:
		return strconv.AppendInt(text, t.N, 10)
	case api.Atom:
		return writeName(text, t.Name)
	case api.Tuple:
		return append(writeItems(append(text, '{'), t.Items), '}')
	case api.Bin:
		return append(writeBytes(append(text, "<<"...), t.Bytes), ">>"...)
	default: // a list, or nil, which has no items
		text = writeItems(append(text, '['), t.Items)
		for _, rest := range t.Rest {
			text = write(append(text, '|'), rest)
		}
		return append(text, ']')
	}
}

func writeItems(text []byte, items []api.Term) []byte {
	for i, item := range items {
		if i > 0 {
			text = append(text, ',')
		}
		text = write(text, item)
	}
	return text
}

func writeBytes(text, list []byte) []byte {
	for i, b := range list {
		if i > 0 {
			text = append(text, ',')
		}
		text = strconv.AppendUint(text, uint64(b), 10)
	}
	return text
}

func writeName(text []byte, name string) []byte {
	const digits = "0123456789abcdef"
	if plain(name) {
		return append(text, name...)
	}
	text = append(text, '\'')
	for i := range len(name) { // by bytes, whatever they say as runes
		switch b := name[i]; {
		case hidden(b):
			text = append(text, '\\', 'x', digits[b>>4], digits[b&15])
		case b == '\'' || b == '\\':
			text = append(text, '\\')
			fallthrough
		default:
			text = append(text, b)
		}
	}
	return append(text, '\'')
}

// plain tells whether a name wants no quotes.
func plain(name string) bool {
	for i := range len(name) {
		if !inWord(name[i]) {
			return false
		}
	}
	return name != "" && isLetter(name[0])
}

// hidden tells whether a byte of a name is written by its number.
func hidden(b byte) bool { return b < 32 || b > 126 }

func isLetter(b byte) bool { return b >= 'a' && b <= 'z' }

func isDigit(b byte) bool { return b >= '0' && b <= '9' }

func inWord(b byte) bool { return isLetter(b) || isDigit(b) || b == '_' }
