// Package paths: what a path is, and things that stand by their paths: see DOC.md, 'Words'.
package paths

import (
	"strings"

	"gauze/api"
)

// Root stands for the root where a parent is told: it is no path, so that it is mistaken for none.
const Root = ""

// Valid tells whether a text is a path.
func Valid(path string) bool {
	// One step more than may be is enough to refuse a text, however long it is.
	steps := strings.SplitN(path, "/", api.MaxSteps+1)
	if len(steps) > api.MaxSteps {
		return false
	}
	for _, step := range steps {
		if !validStep(step) {
			return false
		}
	}
	return true
}

// Parent is the path ahead of the last step, or Root.
func Parent(path string) string {
	return path[:max(0, strings.LastIndexByte(path, '/'))]
}

// Last is the last step of a path.
func Last(path string) string {
	return path[strings.LastIndexByte(path, '/')+1:]
}

// IsBelow tells whether a path is below another one.
func IsBelow(path, top string) bool {
	return strings.HasPrefix(path, top+"/")
}

func validStep(step string) bool {
	if len(step) < 1 || len(step) > api.MaxStep || step == "." || step == ".." {
		return false
	}
	for i := range len(step) {
		if !validByte(step[i]) {
			return false
		}
	}
	return true
}

func validByte(b byte) bool {
	return 'a' <= b && b <= 'z' || '0' <= b && b <= '9' || b == '.' || b == '_' || b == '-'
}
