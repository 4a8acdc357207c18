package hier

import "arbiter/api"

// copyList keeps nothing of an empty list either: not even the memory behind its length.
func copyList[T any](list []T) []T {
	return append([]T(nil), list...)
}

func copyClass(c api.Class) api.Class {
	c.Ifaces = copyList(c.Ifaces)
	c.Methods = copyList(c.Methods)
	for at, m := range c.Methods {
		c.Methods[at] = copyMethod(m)
	}
	return c
}

func copyMethod(m api.Method) api.Method {
	m.Code = copyList(m.Code)
	return m
}
