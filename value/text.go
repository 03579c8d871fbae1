package value

import (
	"strings"

	"whittle/api"
	"whittle/num"
)

// faultNames are the faults as they are written, by their numbers; there is no fault 0.
var faultNames = [...]string{"", "#DIV/0!", "#VALUE!", "#REF!", "#NUM!", "#N/A", "#CIRCLE!", "#LONG!", "#ARG!"}

// quote stands ahead of contents that are a text, whatever they look like.
const quote = "'"

// Show writes a value so that Read reads it.
func Show(v api.Value) string {
	v = counted(v)
	switch v.Kind {
	case api.Fault:
		return faultNames[v.Fault]
	case api.Text:
		if strings.HasPrefix(v.Text, "=") || Read(v.Text) != v {
			return quote + v.Text
		}
	}
	s, _ := AsText(v)
	return s
}

// Read is the value of what was typed.
func Read(s string) api.Value {
	if s == "" {
		return Blank()
	}
	if text, ok := strings.CutPrefix(s, quote); ok {
		return Text(text)
	}
	if n, ok := num.Read(s); ok {
		return Number(n)
	}
	if b, ok := readTruth(s); ok {
		return Truth(b)
	}
	if code := readFault(s); code != 0 {
		return Fault(code)
	}
	return Text(s)
}

// readFault is the fault whose name s is, or 0.
func readFault(s string) int {
	for code, name := range faultNames {
		if name == s {
			return code
		}
	}
	return 0
}
