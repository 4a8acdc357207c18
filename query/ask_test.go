package query

import (
	"fmt"
	"slices"
	"strings"
	"testing"

	"arbiter/api"
	"arbiter/link"
)

// deep is as many brackets as a type may have.
var deep = strings.Repeat("[", api.MaxDims)

// answered asks lines that are answered by one line each.
func answered(t *testing.T, l *link.Linker, lines map[string]string) {
	t.Helper()
	for line, want := range lines {
		says(t, l, line, want)
	}
}

func TestExamples(t *testing.T) { // P23.3: the chapter's
	l := linkerOf(t)
	answered(t, l, map[string]string{
		"resolve Object.id()I from Object":              "Object.id()I",
		"select virtual Object.id()I [I from Cloneable": "Object.id()I",
		"static Object.id()I from Object":               "error 23",
		"below [[I [LObject;":                           "yes",
		"below LObject; LNo;":                           "error 20",
		"itable Object":                                 "Object.id()I Object.id()I Object.id()I",
		"itable Cloneable":                              "error 23",
	})
	says(t, l, "vtable Object", "0 Object.id()I Object.id()I", "1 Object.kin()LObject; Object.kin()LObject;")
	says(t, l, "display Cloneable", "primary Object Cloneable", "deep", "secondary")
	says(t, l, "chain Cloneable", "Cloneable", "Object")
	says(t, l, "closure Object")
	refuses(t, l, "chain No", api.NoClassDef)
	refuses(t, l, "chain", api.ErrArg)
	refuses(t, l, "chains Object", api.ErrWord)
	refuses(t, l, "chain  Object", api.ErrText)
}

// TestExamplesOfTheWhole: the questions among the ten of the document.
func TestExamplesOfTheWhole(t *testing.T) { // P23.3
	l := linkerOf(t)
	says(t, l, "chain Cloneable", "Cloneable", "Object")
	refuses(t, l, "chain A", api.NoClassDef)
	define(t, l.World(), class("A", "Object", method("m()I", normal)))
	says(t, l, "select virtual A.m()I A from Object", "A.m()I")
	says(t, l, "select virtual A.m()I Object from Object", "error 23")
	define(t, l.World(), class("B", "A", method("m()I", normal)))
	says(t, l, "select virtual A.m()I B from Object", "B.m()I")
	says(t, l, "overrides B.m()I A.m()I", "yes")
	define(t, l.World(), class("p/A", "Object", method("m()I", 0)))
	define(t, l.World(), class("q/B", "p/A", method("m()I", normal)))
	define(t, l.World(), class("p/C", "q/B", method("m()I", normal)))
	says(t, l, "overrides q/B.m()I p/A.m()I", "no")
	says(t, l, "overrides p/C.m()I p/A.m()I", "yes")
	says(t, l, "vtable p/C", "0 Object.id()I Object.id()I", "1 Object.kin()LObject; Object.kin()LObject;", "2 p/A.m()I p/C.m()I", "3 q/B.m()I p/C.m()I")
	define(t, l.World(), iface("I", method("m()I", normal)))
	define(t, l.World(), iface("J", method("m()I", normal)))
	define(t, l.World(), of(class("Both", "Object"), "I", "J"))
	says(t, l, "select virtual Both.m()I Both from Object", "error 23")
	says(t, l, "below [[I [LObject;", "yes")
	says(t, l, "below [I [LObject;", "no")
}

func TestSelect(t *testing.T) { // P23.3
	answered(t, town(t), map[string]string{
		"select virtual A.m()V A from Object":              "A.m()V",
		"select virtual A.m()V B from Object":              "B.m()V",
		"select virtual A.m()V C from I":                   "B.m()V",
		"select virtual A.x()V C from A":                   "C.x()V",
		"select virtual B.d()V C from C":                   "J:d()V",
		"select virtual B.d()V B from C":                   "I:d()V",
		"select virtual [LA;.id()I [LB; from C":            "Object.id()I",
		"select virtual Object.id()I " + deep + "I from C": "Object.id()I",
		"select virtual p/X.m()V q/Y from p/Z":             "p/X.m()V",
		"select virtual p/X.m()V p/Z from p/Z":             "p/Z.m()V",
		"select virtual p/Z.n([[I[LA;)LB; p/Z from Object": "p/Z.n([[I[LA;)LB;",
		"select interface I:m()V B from Object":            "B.m()V",
		"select interface I:d()V U from Object":            "I:d()V",
		"select interface K:t()V C from E":                 "error 23",
		"select interface I:m()V U from Object":            "error 24",
		"select interface Cloneable:id()I [LU; from A":     "Object.id()I",
		"select special A.m()V C from C":                   "B.m()V",
		"select special A.m()V C from Object":              "A.m()V",
		"select special A.<init>()V B from B":              "A.<init>()V",
		"select special I:d()V C from C":                   "I:d()V",
		"select special A.p()V B from A":                   "A.p()V",
		"select special A.z()V B from B":                   "error 24",
		// Errors of what is asked.
		"select virtual A.m()V Object from Object":    "error 23",
		"select virtual A.s()V A from Object":         "error 23",
		"select virtual A.m()V I from Object":         "error 2",
		"select virtual A.m()V No from Object":        "error 20",
		"select virtual A.m()V [LNo; from Object":     "error 20",
		"select virtual No.m()V A from Object":        "error 20",
		"select virtual [LNo;.m()V A from Object":     "error 20",
		"select virtual A.none()V A from Object":      "error 21",
		"select virtual A.p()V A from Object":         "error 22",
		"select virtual q/Shut.m()V q/Shut from A":    "error 22",
		"select virtual A:m()V A from Object":         "error 35",
		"select virtual A.<init>()V A from Object":    "error 35",
		"select interface A.m()V A from Object":       "error 35",
		"select interface A:m()V A from Object":       "error 23",
		"select interface No:m()V No from Object":     "error 20",
		"select special B.<init>()V C from Object":    "error 21",
		"select special A.m()V " + deep + "I from C":  "error 23",
		"select special Object.<init>()V I from I":    "error 2",
		"select interface [I:id()I [I from Object":    "error 23",
		"select virtual I.m()V B from Object":         "error 23",
		"select virtual C.t()V C from Object":         "error 23",
		"select virtual Object.none()I [I from A":     "error 21",
		"select virtual Object.id()I Object from q/Y": "Object.id()I",
	})
}

// TestSelectNamesTheCaller: the class behind from is the one that asks, not that of the receiver.
func TestSelectNamesTheCaller(t *testing.T) { // P23.3
	answered(t, town(t), map[string]string{
		"select virtual A.p()V A from A":                "A.p()V",
		"select virtual A.p()V A from B":                "error 22",
		"select virtual A.p()V B from B":                "error 22",
		"select virtual A.p()V B from A":                "A.p()V",
		"select virtual q/Shut.m()V q/Shut from q/Y":    "q/Shut.m()V",
		"select virtual q/Shut.m()V q/Shut from p/Z":    "error 22",
		"select virtual q/Shut.m()V q/Shut from q/Shut": "q/Shut.m()V",
		"static q/Shut.s()V from q/Y":                   "q/Shut.s()V",
		"static q/Shut.s()V from p/Z":                   "error 22",
		"resolve q/Shut.s()V from q/Y":                  "q/Shut.s()V",
		"resolve q/Shut.s()V from p/Z":                  "error 22",
		"resolve A.p()V from A":                         "A.p()V",
		"resolve A.p()V from C":                         "error 22",
	})
}

func TestStatic(t *testing.T) { // P23.3
	answered(t, town(t), map[string]string{
		"static A.s()V from Object":     "A.s()V",
		"static C.s()V from E":          "A.s()V",
		"static I:s()V from Object":     "I:s()V",
		"static A.m()V from Object":     "error 23",
		"static I:d()V from Object":     "error 23",
		"static J:s()V from Object":     "error 21",
		"static A:s()V from Object":     "error 23",
		"static [LA;.s()V from Object":  "error 21",
		"static A.none()V from Object":  "error 21",
		"static No.s()V from Object":    "error 20",
		"static [LNo;.s()V from Object": "error 20",
		"static A.<init>()V from A":     "error 35",
	})
}

func TestResolve(t *testing.T) { // P23.3
	answered(t, town(t), map[string]string{
		"resolve A.m()V from Object":             "A.m()V",
		"resolve C.m()V from Object":             "B.m()V",
		"resolve C.s()V from Object":             "A.s()V",
		"resolve C.d()V from Object":             "J:d()V",
		"resolve C.t()V from Object":             "J:t()V",
		"resolve B.<init>(I)V from B":            "B.<init>(I)V",
		"resolve B.<init>(I)V from A":            "error 22",
		"resolve I:id()I from Object":            "Object.id()I",
		"resolve I:kin()LObject; from Object":    "error 21",
		"resolve I.id()I from Object":            "error 23",
		"resolve A:id()I from Object":            "error 23",
		"resolve " + deep + "LA;.id()I from E":   "Object.id()I",
		"resolve [I.kin()LObject; from A":        "Object.kin()LObject;",
		"resolve [I:id()I from Object":           "error 23",
		"resolve No.m()V from Object":            "error 20",
		"resolve [[LNo;.m()V from Object":        "error 20",
		"resolve A.none()V from Object":          "error 21",
		"resolve p/Z.n([[I[LA;)LB; from E":       "p/Z.n([[I[LA;)LB;",
		"resolve p/Z.n([[I[LNo;)LB; from Object": "error 21",
	})
}

func TestBelow(t *testing.T) { // P23.3: the first below the second
	answered(t, town(t), map[string]string{
		"below I I":                               "yes",
		"below LB; LA;":                           "yes",
		"below LA; LB;":                           "no",
		"below LC; LI;":                           "yes",
		"below LJ; LI;":                           "yes",
		"below LI; LJ;":                           "no",
		"below LI; LObject;":                      "yes",
		"below [LC; [LK;":                         "yes",
		"below [LK; [LC;":                         "no",
		"below [[LC; [LCloneable;":                "yes",
		"below [[I LSerializable;":                "yes",
		"below I LObject;":                        "no",
		"below LObject; I":                        "no",
		"below [I [I":                             "yes",
		"below [LI; [I":                           "no",
		"below [I [LI;":                           "no",
		"below " + deep + "LB; " + deep + "LA;":   "yes",
		"below " + deep + "LA; " + deep + "LB;":   "no",
		"below " + deep + "I " + deep[1:] + "LE;": "no",
		"below LNo; LObject;":                     "error 20",
		"below LObject; LNo;":                     "error 20",
		"below LNo; I":                            "error 20",
		"below [LNo; [LNo;":                       "error 20",
	})
}

func TestOverrides(t *testing.T) { // P23.3: the first overrides the second
	answered(t, town(t), map[string]string{
		"overrides B.m()V A.m()V":                 "yes",
		"overrides A.m()V B.m()V":                 "no",
		"overrides A.m()V A.m()V":                 "yes",
		"overrides A.s()V A.s()V":                 "no",
		"overrides A.p()V A.p()V":                 "yes",
		"overrides B.p()V A.p()V":                 "no",
		"overrides B.m()V I:m()V":                 "yes",
		"overrides A.m()V I:m()V":                 "no",
		"overrides I:m()V B.m()V":                 "no",
		"overrides J:d()V I:d()V":                 "no",
		"overrides B.id()I Object.id()I":          "yes",
		"overrides B.id()I Object.kin()LObject;":  "no",
		"overrides q/Y.m()V p/X.m()V":             "no",
		"overrides p/Z.m()V p/X.m()V":             "yes",
		"overrides p/Z.m()V q/Y.m()V":             "yes",
		"overrides C.x()V A.x()V":                 "yes",
		"overrides Object.<init>()V A.<init>()V":  "no",
		"overrides A.<init>()V A.<init>()V":       "yes",
		"overrides p/Z.n([[I[LA;)LB; p/X.n(I)I":   "no",
		"overrides q/Shut.m()V q/Shut.m()V":       "yes",
		"overrides Object.kin()LObject; I:p()V":   "no",
		"overrides I:p()V I:p()V":                 "yes",
		"overrides K:t()V J:t()V":                 "no",
		"overrides B.<init>(I)V Object.<init>()V": "no",
	})
}

func TestVtable(t *testing.T) { // P23.3
	l := town(t)
	object := []string{"0 Object.id()I Object.id()I", "1 Object.kin()LObject; Object.kin()LObject;"}
	says(t, l, "vtable Object", object...)
	says(t, l, "vtable F", object...)
	says(t, l, "vtable U", object...)
	says(t, l, "vtable A", append(slices.Clone(object), "2 A.m()V A.m()V", "3 A.x()V A.x()V", "4 A.v()V A.v()V", "5 A.z()V A.z()V")...)
	says(t, l, "vtable B", "0 Object.id()I B.id()I", object[1], "2 A.m()V B.m()V", "3 A.x()V A.x()V", "4 A.v()V A.v()V", "5 A.z()V A.z()V", "6 B.p()V B.p()V")
	says(t, l, "vtable C", "0 Object.id()I B.id()I", object[1], "2 A.m()V B.m()V", "3 A.x()V C.x()V", "4 A.v()V A.v()V", "5 A.z()V A.z()V", "6 B.p()V B.p()V")
	says(t, l, "vtable p/X", append(slices.Clone(object), "2 p/X.m()V p/X.m()V", "3 p/X.n(I)I p/X.n(I)I")...)
	says(t, l, "vtable q/Y", append(slices.Clone(object), "2 p/X.m()V p/X.m()V", "3 p/X.n(I)I p/X.n(I)I", "4 q/Y.m()V q/Y.m()V")...)
	says(t, l, "vtable p/Z", append(slices.Clone(object), "2 p/X.m()V p/Z.m()V", "3 p/X.n(I)I p/X.n(I)I", "4 q/Y.m()V p/Z.m()V", "5 p/Z.n([[I[LA;)LB; p/Z.n([[I[LA;)LB;")...)
	says(t, l, "vtable q/Shut", append(slices.Clone(object), "2 q/Shut.m()V q/Shut.m()V")...)
}

func TestItable(t *testing.T) { // P23.3
	l := town(t)
	object := "Object.id()I Object.id()I Object.id()I"
	for _, name := range []string{"Object", "A", "p/X", "q/Y", "p/Z", "q/Shut", "F"} {
		says(t, l, "itable "+name, object)
	}
	says(t, l, "itable B", "Object.id()I B.id()I B.id()I", "I:m()V B.m()V B.m()V", "I:d()V I:d()V I:d()V")
	says(t, l, "itable C", "Object.id()I B.id()I B.id()I", "I:m()V B.m()V B.m()V", "I:d()V J:d()V J:d()V", "J:d()V J:d()V J:d()V", "J:t()V error 23 error 23", "K:t()V error 23 error 23")
	says(t, l, "itable U", object, "I:m()V error 24 error 24", "I:d()V I:d()V I:d()V")
	// Where the two kinds of selection part: a method that is not public hides the interface's from the one kind alone.
	define(t, l.World(), of(class("V", "Object", method("m", 0), method("d", api.Private)), "I"))
	says(t, l, "itable V", object, "I:m()V error 22 V.m()V", "I:d()V error 22 I:d()V")
	define(t, l.World(), of(class("W", "Object", method("m", api.Private), method("d", abstract)), "I"))
	says(t, l, "itable W", object, "I:m()V error 22 error 24", "I:d()V error 24 error 24")
	// A method of the chain whose class does not extend the interface is met by the one kind alone.
	define(t, l.World(), of(class("G", "A"), "I"))
	says(t, l, "itable G", object, "I:m()V A.m()V error 24", "I:d()V I:d()V I:d()V")
}

func TestTablesOfInterfaces(t *testing.T) { // P23.3
	l := town(t)
	for _, name := range []string{"Cloneable", "Serializable", "I", "J", "K", "E"} {
		says(t, l, "vtable "+name, "error 23")
		says(t, l, "itable "+name, "error 23")
	}
}

func TestDisplay(t *testing.T) { // P23.3
	l := town(t)
	says(t, l, "display Object", "primary Object", "deep", "secondary")
	says(t, l, "display Cloneable", "primary Object Cloneable", "deep", "secondary")
	says(t, l, "display J", "primary Object J", "deep", "secondary I")
	says(t, l, "display A", "primary Object A", "deep", "secondary")
	says(t, l, "display C", "primary Object A B C", "deep", "secondary I J K")
	says(t, l, "display p/Z", "primary Object p/X q/Y p/Z", "deep", "secondary")
	says(t, l, "display F", "primary Object F", "deep", "secondary E Serializable")
}

func TestChain(t *testing.T) { // P23.3
	l := town(t)
	says(t, l, "chain Object", "Object")
	says(t, l, "chain J", "J", "Object")
	says(t, l, "chain C", "C", "B", "A", "Object")
	says(t, l, "chain p/Z", "p/Z", "q/Y", "p/X", "Object")
}

func TestClosure(t *testing.T) { // P23.3
	l := town(t)
	for _, name := range []string{"Object", "Cloneable", "I", "K", "A", "p/Z", "E"} {
		says(t, l, "closure "+name)
	}
	says(t, l, "closure J", "I")
	says(t, l, "closure B", "I")
	says(t, l, "closure C", "I", "J", "K")
	says(t, l, "closure F", "E", "Serializable")
}

func TestMethods(t *testing.T) { // P23.3
	l := town(t)
	all := townMethods()
	for c := range townSize {
		it, _ := l.World().Class(c)
		says(t, l, "methods "+it.Name, all[c]...)
	}
}

// chainOf are classes C1, C2 and so on, each below the one ahead of it, with a method of its own and an interface's.
func chainOf(count int) []api.Class {
	var out []api.Class
	super := "Object"
	for n := range count {
		out = append(out, iface(fmt.Sprint("I", n+1), method("m", normal)), of(class(fmt.Sprint("C", n+1), super, method(fmt.Sprint("n", n+1), normal)), fmt.Sprint("I", n+1)))
		super = fmt.Sprint("C", n+1)
	}
	return out
}

// TestManyLines: a class far down, and one with as many methods as there may be.
func TestManyLines(t *testing.T) { // P23.3
	const count = 100
	var many []api.Method
	for n := range api.MaxMethods {
		many = append(many, method(fmt.Sprint("n", n), normal))
	}
	l := linkerOf(t, append(chainOf(count), class("Many", "Object", many...))...)
	vtable := []string{"0 Object.id()I Object.id()I", "1 Object.kin()LObject; Object.kin()LObject;"}
	itable := []string{"Object.id()I Object.id()I Object.id()I"}
	chain, closure := []string{"Object"}, []string(nil)
	for n := 1; n <= count; n++ {
		chain, closure = append(chain, fmt.Sprint("C", n)), append(closure, fmt.Sprint("I", n))
		vtable = append(vtable, fmt.Sprintf("%d C%d.n%d()V C%d.n%d()V", n+1, n, n, n, n))
		itable = append(itable, fmt.Sprintf("I%d:m()V error 23 error 23", n))
	}
	last := fmt.Sprint(" C", count)
	says(t, l, "vtable"+last, vtable...)
	says(t, l, "itable"+last, itable...)
	says(t, l, "closure"+last, closure...)
	says(t, l, "display"+last, "primary "+strings.Join(chain[:8], " "), "deep "+strings.Join(chain[8:], " "), "secondary "+strings.Join(closure, " "))
	says(t, l, "display C7", "primary Object C1 C2 C3 C4 C5 C6 C7", "deep", "secondary I1 I2 I3 I4 I5 I6 I7")
	says(t, l, "display C8", "primary Object C1 C2 C3 C4 C5 C6 C7", "deep C8", "secondary I1 I2 I3 I4 I5 I6 I7 I8")
	slices.Reverse(chain)
	says(t, l, "chain"+last, chain...)
	var names, slots []string
	for n := range api.MaxMethods {
		names = append(names, fmt.Sprintf("Many.n%d()V", n))
		slots = append(slots, fmt.Sprintf("%d Many.n%d()V Many.n%d()V", n+2, n, n))
	}
	says(t, l, "methods Many", names...)
	says(t, l, "vtable Many", append(vtable[:2:2], slots...)...)
}
