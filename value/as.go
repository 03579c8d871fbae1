package value

import (
	"whittle/api"
	"whittle/num"
)

// The truths as they are written.
const (
	trueText  = "TRUE"
	falseText = "FALSE"
)

// AsNumber is v as a number; or the zero Num, and the fault that comes of it.
func AsNumber(v api.Value) (api.Num, api.Value) {
	v = counted(v)
	n := api.Num{N: 0, D: 1}
	switch v.Kind {
	case api.Fault:
		return api.Num{}, v
	case api.Text:
		read, ok := num.Read(v.Text)
		if !ok {
			return api.Num{}, Fault(api.FaultValue)
		}
		n = read
	case api.Truth:
		if v.True {
			n.N = 1
		}
	case api.Number:
		n = v.Num
	}
	return n, Blank()
}

// AsText is v as a text; or the empty one, and the fault that it is.
func AsText(v api.Value) (string, api.Value) {
	v = counted(v)
	switch v.Kind {
	case api.Fault:
		return "", v
	case api.Number:
		return num.Text(v.Num), Blank()
	case api.Truth:
		return truthText(v.True), Blank()
	}
	return v.Text, Blank()
}

// AsTruth is v as a truth; or false, and the fault that comes of it.
func AsTruth(v api.Value) (bool, api.Value) {
	v = counted(v)
	switch v.Kind {
	case api.Fault:
		return false, v
	case api.Number:
		return v.Num.N != 0, Blank()
	case api.Text:
		b, ok := readTruth(v.Text)
		if !ok {
			return false, Fault(api.FaultValue)
		}
		return b, Blank()
	}
	return v.True, Blank()
}

func truthText(b bool) string {
	if b {
		return trueText
	}
	return falseText
}

// readTruth is the truth that s writes; false as the second: it writes none.
func readTruth(s string) (b, ok bool) {
	return s == trueText, s == trueText || s == falseText
}
