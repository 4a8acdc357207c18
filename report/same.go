package report

import (
	"slices"

	"arbiter/api"
	"arbiter/hier"
)

// classesOf are all classes of a world, by their numbers.
func classesOf(w *hier.World) []api.Class {
	classes := make([]api.Class, w.Len())
	for id := range classes {
		classes[id], _ = w.Class(id)
	}
	return classes
}

func isSameClass(a, b api.Class) bool {
	return a.Name == b.Name && a.Super == b.Super && a.Flags == b.Flags && a.Loader == b.Loader &&
		slices.Equal(a.Ifaces, b.Ifaces) && slices.EqualFunc(a.Methods, b.Methods, isSameMethod)
}

func isSameMethod(a, b api.Method) bool {
	return a.Name == b.Name && a.Desc == b.Desc && a.Flags == b.Flags && a.Locals == b.Locals && a.Stack == b.Stack &&
		slices.Equal(a.Code, b.Code)
}
