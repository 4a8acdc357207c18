package hier

import "arbiter/api"

const objectName = "Object"

// firstClasses are there before any class arrives. They are in the order of their numbers.
func firstClasses() []api.Class {
	return []api.Class{objectClass(), marker("Cloneable"), marker("Serializable")}
}

// objectClass has no superclass, so it is sound for no caller of Define: it stands here alone.
func objectClass() api.Class {
	return api.Class{Name: objectName, Flags: api.Public | api.Super, Methods: []api.Method{
		{Name: "<init>", Desc: "()V", Flags: api.Public, Locals: 1, Stack: 0, Code: []api.Inst{{Op: api.Return}}},
		{Name: "id", Desc: "()I", Flags: api.Public, Locals: 1, Stack: 1, Code: []api.Inst{{Op: api.IConst, N: 7}, {Op: api.IReturn}}},
		{Name: "kin", Desc: "()LObject;", Flags: api.Protected, Locals: 1, Stack: 1, Code: []api.Inst{{Op: api.ALoad, N: 0}, {Op: api.AReturn}}},
	}}
}

func marker(name string) api.Class {
	return api.Class{Name: name, Super: objectName, Flags: api.Public | api.Interface | api.AbstractFl}
}
