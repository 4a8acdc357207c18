package engine

import (
	"fmt"
	"slices"
	"strings"
	"testing"

	"arbiter/api"
	"arbiter/code"
)

// piece is code of a static method A.f, which is run once.
type piece struct {
	code string
	want string
}

// sampleClasses are what the pieces name: B and C are below A, which is of I; D is abstract; q/Shut is no class that others see.
func sampleClasses() []api.Class {
	return []api.Class{
		iface("I"),
		of(class("B0", "Object"), "I"),
		class("B1", "B0"),
		flagged(class("D", "B0"), api.Public|api.Super|api.AbstractFl),
		flagged(class("q/Shut", "B0"), api.Super),
		class("q/Open", "q/Shut"),
	}
}

// pieceOf is the class of a piece. Its method f has the room that the piece needs, and not more, unless another is told.
func pieceOf(t testing.TB, desc, lines string, room int) api.Class {
	m := method(t, "f"+desc, static, lines)
	m.Stack = room
	return class("A", "Object", m)
}

// needs tells how many operands there are at most, if the code goes from the first instruction to the last.
func needs(t testing.TB, lines string) int {
	t.Helper()
	depth, most := 0, 0
	for _, i := range instructions(t, lines) {
		w, _ := code.Word(i.Op)
		depth = max(depth-len(takes(w, i)), 0) + putsOf(w, i)
		most = max(most, depth)
	}
	return most
}

// runsPieces runs each of them with all capacities, and with just the room that it needs.
func runsPieces(t *testing.T, desc string, args []int, pieces []piece) {
	t.Helper()
	for _, p := range pieces {
		for _, capacity := range []int{0, 1, 4} {
			l := linkerOf(t, append([]api.Class{pieceOf(t, desc, p.code, needs(t, p.code))}, sampleClasses()...)...)
			s := newSubject(t, l, capacity)
			got, e := s.run(t, ref("A.f"+desc), args, plenty)
			if e != api.OK || said(got) != p.want {
				t.Errorf("%s: %s, %d, want %s", p.code, said(got), e, p.want)
			}
		}
	}
}

func TestConstantsAndLocals(t *testing.T) { // P22.2: iconst, iload, aload, istore, astore, null
	runsPieces(t, "()V", nil, []piece{
		{"iconst -2147483648, print, iconst 2147483647, print, iconst 0, print, return", "-2147483648 2147483647 0 returned spent 7"},
		{"iload 0, print, iload 3, print, return", "0 0 returned spent 5"},
		{"iconst 5, istore 3, iload 3, print, iload 2, print, return", "5 0 returned spent 7"},
		{"iconst 5, istore 0, iconst 6, istore 1, iconst 7, istore 0, iload 0, print, iload 1, print, return", "7 6 returned spent 11"},
		{"new B1, astore 0, aload 0, printclass, aload 0, printclass, return", "B1 B1 returned spent 7"},
		{"null, astore 0, aload 0, ifnull 5, return, iconst 1, print, return", "1 returned spent 7"},
		{"aload 0, pop, return", "Malformed spent 1"},
		{"null, astore 0, iload 0, pop, return", "Malformed spent 3"},
		{"new A, astore 0, iload 0, pop, return", "Malformed spent 3"},
		{"null, astore 0, iconst 3, istore 0, aload 0, pop, return", "Malformed spent 5"},
		{"null, astore 0, iconst 3, istore 0, iload 0, print, return", "3 returned spent 7"},
		{"null, istore 0, return", "Malformed spent 2"},
		{"iconst 0, astore 0, return", "Malformed spent 2"},
	})
}

// row is an instruction with what it takes, the last operand first, and how many it puts.
type row struct {
	line, takes string
	puts        int
}

// allRows are all instructions but for iload and aload, which ask a local as well, and for returns.
func allRows() []row {
	return []row{
		{"iconst 5", "", 1}, {"null", "", 1}, {"iload 0", "", 1}, {"istore 0", "i", 0}, {"astore 0", "a", 0},
		{"iadd", "ii", 1}, {"isub", "ii", 1}, {"imul", "ii", 1}, {"idiv", "ii", 1}, {"goto 0", "", 0},
		{"ifeq 0", "i", 0}, {"ifne 0", "i", 0}, {"iflt 0", "i", 0}, {"ifcmpeq 0", "ii", 0}, {"ifcmplt 0", "ii", 0}, {"ifacmpeq 0", "aa", 0}, {"ifnull 0", "a", 0},
		{"pop", "v", 0}, {"dup", "v", 2}, {"swap", "vv", 2},
		{"new B1", "", 1}, {"newarray I", "i", 1}, {"multinew 1 [I", "i", 1}, {"multinew 2 [[I", "ii", 1}, {"multinew 3 [[[LB1;", "iii", 1},
		{"arraylength", "a", 1}, {"iaload", "ia", 1}, {"aaload", "ia", 1}, {"iastore", "iia", 0}, {"aastore", "aia", 0},
		{"checkcast B1", "a", 1}, {"instanceof B1", "a", 1}, {"print", "i", 0}, {"printclass", "a", 0}, {"ireturn", "i", 0}, {"areturn", "a", 0},
		{"invokestatic A.s()V", "", 0}, {"invokestatic A.s(I)I", "i", 1}, {"invokestatic A.s(LA;)V", "a", 0}, {"invokestatic A.s(I[I)V", "ai", 0}, {"invokestatic A.s(IILA;)V", "aii", 0},
		{"invokevirtual A.m()V", "a", 0}, {"invokevirtual A.m(I)V", "ia", 0}, {"invokevirtual A.m(LA;I)V", "iaa", 0}, {"invokeinterface J:m()V", "a", 0}, {"invokeinterface J:m(I[I)V", "aia", 0}, {"invokespecial A.m()V", "a", 0}, {"invokespecial A.m([I)V", "aa", 0},
		// Nothing of what is named is there: what is taken is looked at first.
		{"new no/Such", "", 1}, {"newarray Lno/Such;", "i", 1}, {"multinew 2 [[Lno/Such;", "ii", 1}, {"invokestatic no/Such.s(ILA;)V", "ai", 0}, {"invokevirtual no/Such.s(LA;I)V", "iaa", 0}, {"invokeinterface A.s(I)V", "ia", 0}, {"invokespecial no/Such.s(I)V", "ia", 0},
	}
}

// pushes is code that puts operands of these kinds, of which the last letter is put last.
func pushes(kinds string) []string {
	var out []string
	for _, kind := range kinds {
		switch kind {
		case 'i', 'v':
			out = append(out, "iconst 0")
		case 'a':
			out = append(out, "null")
		}
	}
	return out
}

func reversed(text string) string {
	all := []rune(text)
	slices.Reverse(all)
	return string(all)
}

// isMalformed runs the pushes and then the line, which throws.
func isMalformed(t *testing.T, kinds, line string, room int) {
	t.Helper()
	lines := append(pushes(kinds), line, "return")
	s := newSubject(t, linkerOf(t, append(sampleClasses(), pieceOf(t, "()V", strings.Join(lines, ", "), room))...), 1)
	s.says(t, "A.f()V", nil, plenty, fmt.Sprint("Malformed spent ", len(kinds)+1))
}

func TestOperandsAreMissing(t *testing.T) { // P22.2: each of them, ahead of all other errors of the row
	for _, r := range allRows() {
		for there := range len(r.takes) {
			isMalformed(t, reversed(r.takes[:there]), r.line, 6)
		}
	}
	isMalformed(t, strings.Repeat("i", 39), "multinew 40 "+strings.Repeat("[", 40)+"I", 40)
	isMalformed(t, strings.Repeat("i", 40), "multinew 41 "+strings.Repeat("[", 41)+"I", 40)
	isMalformed(t, strings.Repeat("i", 40), "multinew 255 "+strings.Repeat("[", 255)+"I", 40)
}

func TestOperandsOfTheWrongKind(t *testing.T) { // P22.2: each of them, ahead of all other errors of the row
	other := map[byte]string{'i': "a", 'a': "i"}
	for _, r := range allRows() {
		for at := range len(r.takes) {
			wrong, there := other[r.takes[at]]
			if !there {
				continue // any value fits
			}
			kinds := reversed(r.takes[:at] + wrong + r.takes[at+1:])
			isMalformed(t, kinds, r.line, 6)
			isMalformed(t, kinds[len(kinds)-1-at:], r.line, 6) // and those below it are not looked for
		}
	}
}

func TestNoRoom(t *testing.T) { // P22.2: what is put finds none; where it does, there is another end
	for _, r := range allRows() {
		if r.puts <= len(r.takes) || strings.Contains(r.line, "no/Such") {
			continue
		}
		for _, below := range []string{"", "i", "ia", "aiaii"} {
			kinds := below + reversed(r.takes)
			isMalformed(t, kinds, r.line, len(kinds))
			lines := append(pushes(kinds), r.line, "pop", "return")
			s := newSubject(t, linkerOf(t, append(sampleClasses(), pieceOf(t, "()V", strings.Join(lines, ", "), len(kinds)+1))...), 1)
			s.says(t, "A.f()V", nil, plenty, fmt.Sprint("returned spent ", len(lines)))
		}
	}
	isMalformed(t, strings.Repeat("i", 40), "iconst 1", 40)
	// What was named ahead of what is put is thrown ahead of it.
	for line, want := range map[string]string{"new no/Such": "NoClassDef", "new q/Shut": "IllegalAccess", "new I": "Instantiation", "aload 0": "Malformed"} {
		s := newSubject(t, linkerOf(t, append(sampleClasses(), pieceOf(t, "()V", line+", return", 0))...), 1)
		s.says(t, "A.f()V", nil, plenty, want+" spent 1")
	}
	s := newSubject(t, linkerOf(t, pieceOf(t, "()V", "null, astore 0, aload 0, aload 0, return", 1)), 1)
	s.says(t, "A.f()V", nil, plenty, "Malformed spent 4")
}

// wrapAround brings a number into 32 bits by counting whole rounds.
func wrapAround(n int) int {
	const round = 1 << 32
	for n > greatestInt {
		n -= (n - greatestInt + round - 1) / round * round
	}
	for n < leastInt {
		n += (leastInt - n + round - 1) / round * round
	}
	return n
}

func TestArithmetic(t *testing.T) { // P22.2: at both edges of 32 bits, too
	var methods []api.Method
	for _, w := range []string{"iadd", "isub", "imul", "idiv"} {
		methods = append(methods, sized(method(t, w+"(II)I", static, "iload 0, iload 1, "+w+", ireturn"), 2, 2))
	}
	s := newSubject(t, linkerOf(t, class("A", "Object", methods...)), 0)
	edges := []int{leastInt, leastInt + 1, -1 << 30, -65536, -46341, -7, -2, -1, 0, 1, 2, 3, 7, 46340, 46341, 65535, 65536, 1 << 30, greatestInt - 1, greatestInt}
	for _, a := range edges {
		for _, b := range edges {
			args := []int{a, b}
			s.says(t, "A.iadd(II)I", args, plenty, fmt.Sprint(wrapAround(a+b), " spent 4"))
			s.says(t, "A.isub(II)I", args, plenty, fmt.Sprint(wrapAround(a-b), " spent 4"))
			s.says(t, "A.imul(II)I", args, plenty, fmt.Sprint(wrapAround(a*b), " spent 4"))
			if b == 0 {
				s.says(t, "A.idiv(II)I", args, plenty, "Arithmetic spent 3")
				continue
			}
			// Rounded towards 0: what is left has the sign of a, and is less than b.
			want := wrapAround(a / b)
			if left := a - a/b*b; left*a < 0 || max(left, -left) >= max(b, -b) {
				t.Fatalf("%d / %d", a, b)
			}
			s.says(t, "A.idiv(II)I", args, plenty, fmt.Sprint(want, " spent 4"))
		}
	}
	for _, c := range []struct {
		text    string
		a, b, n int
	}{
		{"A.iadd(II)I", greatestInt, 1, leastInt}, {"A.iadd(II)I", leastInt, -1, greatestInt}, {"A.iadd(II)I", leastInt, leastInt, 0}, {"A.isub(II)I", leastInt, 1, greatestInt}, {"A.isub(II)I", 0, leastInt, leastInt}, {"A.isub(II)I", 5, 3, 2},
		{"A.imul(II)I", leastInt, -1, leastInt}, {"A.imul(II)I", greatestInt, greatestInt, 1}, {"A.imul(II)I", 65536, 65536, 0}, {"A.imul(II)I", 46341, 46341, -2147479015},
		{"A.idiv(II)I", leastInt, -1, leastInt}, {"A.idiv(II)I", 7, 2, 3}, {"A.idiv(II)I", -7, 2, -3}, {"A.idiv(II)I", 7, -2, -3}, {"A.idiv(II)I", -7, -2, 3}, {"A.idiv(II)I", 2, 7, 0}, {"A.idiv(II)I", -1, 2, 0},
	} {
		s.says(t, c.text, []int{c.a, c.b}, plenty, fmt.Sprint(c.n, " spent 4"))
	}
}

func TestArithmeticErrors(t *testing.T) { // P22.2: what is taken is looked at ahead of a division by 0
	runsPieces(t, "()V", nil, []piece{
		{"iconst 1, iconst 0, idiv, return", "Arithmetic spent 3"},
		{"iconst 0, iconst 0, idiv, return", "Arithmetic spent 3"},
		{"iconst 0, idiv, return", "Malformed spent 2"},
		{"null, iconst 0, idiv, return", "Malformed spent 3"},
		{"iconst 1, null, idiv, return", "Malformed spent 3"},
		{"iconst 0, iconst 1, idiv, print, return", "0 returned spent 5"},
	})
}

func TestJumps(t *testing.T) { // P22.2: taken and not taken, to the last instruction, back, and to itself
	taken := func(setup, jump string) piece {
		n := strings.Count(setup, ",") + 1
		return piece{fmt.Sprintf("%s, %s %d, iconst 0, print, return", setup, jump, n+3), fmt.Sprintf("returned spent %d", n+2)}
	}
	notTaken := func(setup, jump string) piece {
		n := strings.Count(setup, ",") + 1
		return piece{fmt.Sprintf("%s, %s %d, iconst 0, print, return", setup, jump, n+3), fmt.Sprintf("0 returned spent %d", n+4)}
	}
	runsPieces(t, "()V", nil, []piece{
		taken("iconst 0", "ifeq"), notTaken("iconst 1", "ifeq"), notTaken("iconst -1", "ifeq"), notTaken("iconst -2147483648", "ifeq"),
		notTaken("iconst 0", "ifne"), taken("iconst 1", "ifne"), taken("iconst -1", "ifne"), taken("iconst -2147483648", "ifne"),
		notTaken("iconst 0", "iflt"), notTaken("iconst 1", "iflt"), notTaken("iconst 2147483647", "iflt"), taken("iconst -1", "iflt"), taken("iconst -2147483648", "iflt"),
		taken("iconst 3, iconst 3", "ifcmpeq"), notTaken("iconst 3, iconst 4", "ifcmpeq"), notTaken("iconst 4, iconst 3", "ifcmpeq"),
		notTaken("iconst 3, iconst 3", "ifcmplt"), taken("iconst 3, iconst 4", "ifcmplt"), notTaken("iconst 4, iconst 3", "ifcmplt"), taken("iconst -2147483648, iconst 2147483647", "ifcmplt"), notTaken("iconst 2147483647, iconst -2147483648", "ifcmplt"),
		taken("null, null", "ifacmpeq"), notTaken("new A, null", "ifacmpeq"), notTaken("null, new A", "ifacmpeq"), notTaken("new A, new A", "ifacmpeq"), taken("new A, dup", "ifacmpeq"), notTaken("new A, iconst 1, newarray I", "ifacmpeq"),
		taken("null", "ifnull"), notTaken("new A", "ifnull"), notTaken("iconst 0, newarray I", "ifnull"),
		taken("iconst 7, pop", "goto"),
		// What a jump takes is gone, and nothing else.
		{"iconst 9, iconst 0, ifeq 3, print, return", "9 returned spent 5"},
		{"iconst 9, iconst 1, ifeq 3, print, return", "9 returned spent 5"},
		{"iconst 9, iconst 1, iconst 1, ifcmpeq 4, print, return", "9 returned spent 6"},
		{"iconst 9, null, null, ifacmpeq 4, print, return", "9 returned spent 6"},
		{"goto 4, iconst 1, print, return, goto 1", "1 returned spent 5"},
		{"iconst -3, istore 0, iload 0, print, iload 0, iconst 1, iadd, istore 0, iload 0, iflt 2, return", "-3 -2 -1 returned spent 27"},
		{"goto 0", "FuelSpent spent 1000"},
		{"iconst 1, ifne 0", "FuelSpent spent 1000"},
		{"goto 2, return, iconst 1", "Malformed spent 2"},
	})
}

func TestShuffles(t *testing.T) { // P22.2: pop, dup, swap of ints and of references
	runsPieces(t, "()V", nil, []piece{
		{"iconst 1, iconst 2, pop, print, return", "1 returned spent 5"},
		{"iconst 1, null, pop, print, return", "1 returned spent 5"},
		{"iconst 4, dup, print, print, return", "4 4 returned spent 5"},
		{"new B1, dup, printclass, printclass, return", "B1 B1 returned spent 5"},
		{"new B1, dup, ifacmpeq 4, return, iconst 1, print, return", "1 returned spent 6"},
		{"iconst 1, iconst 2, swap, print, print, return", "1 2 returned spent 6"},
		{"iconst 1, new B1, swap, print, printclass, return", "1 B1 returned spent 6"},
		{"new B1, iconst 1, swap, printclass, print, return", "B1 1 returned spent 6"},
		{"iconst 3, iconst 1, iconst 2, swap, print, print, print, return", "1 2 3 returned spent 8"},
	})
}

func TestNewObjects(t *testing.T) { // P22.2: new, with its errors in their order
	runsPieces(t, "()V", nil, []piece{
		{"new B1, printclass, new A, printclass, new Object, printclass, return", "B1 A Object returned spent 7"},
		{"new q/Open, printclass, return", "q/Open returned spent 3"},
		{"new no/Such, return", "NoClassDef spent 1"},
		{"new q/Shut, return", "IllegalAccess spent 1"},
		{"new I, return", "Instantiation spent 1"},
		{"new Cloneable, return", "Instantiation spent 1"},
		{"new D, return", "Instantiation spent 1"},
	})
	// Seen from their own package, what is shut to others is open, and then it is asked whether there may be an object.
	for name, want := range map[string]string{"q/Shut": "1 spent 2", "q/ShutD": "Instantiation spent 1", "q/ShutI": "Instantiation spent 1", "D": "Instantiation spent 1"} {
		home := class("q/Home", "Object", method(t, "f()LObject;", static, "new "+name+", areturn"))
		l := linkerOf(t, append(sampleClasses(), flagged(class("q/ShutD", "Object"), api.Super|api.AbstractFl), flagged(iface("q/ShutI"), api.Interface|api.AbstractFl), home)...)
		newSubject(t, l, 1).says(t, "q/Home.f()LObject;", nil, plenty, strings.Replace(want, "1 spent 2", "ref 1 spent 2", 1))
	}
}

func TestNewArrays(t *testing.T) { // P22.2: newarray, with its errors in their order
	runsPieces(t, "()V", nil, []piece{
		{"iconst 3, newarray I, dup, printclass, arraylength, print, return", "[I 3 returned spent 7"},
		{"iconst 0, newarray LB1;, dup, printclass, arraylength, print, return", "[LB1; 0 returned spent 7"},
		{"iconst 2, newarray [I, dup, printclass, arraylength, print, return", "[[I 2 returned spent 7"},
		{"iconst 2, newarray [[LI;, printclass, return", "[[[LI; returned spent 4"},
		{"iconst 1, newarray I, iconst 0, iaload, print, return", "0 returned spent 6"},
		{"iconst 1, newarray [I, iconst 0, aaload, ifnull 6, return, iconst 1, print, return", "1 returned spent 8"},
		{"iconst 1, newarray LD;, printclass, return", "[LD; returned spent 4"},
		{"iconst 1, newarray Lno/Such;, return", "NoClassDef spent 2"},
		{"iconst -1, newarray Lno/Such;, return", "NoClassDef spent 2"},
		{"iconst 1, newarray [[Lno/Such;, return", "NoClassDef spent 2"},
		{"iconst 1, newarray Lq/Shut;, return", "IllegalAccess spent 2"},
		{"iconst -1, newarray Lq/Shut;, return", "IllegalAccess spent 2"},
		{"iconst -1, newarray [Lq/Shut;, return", "IllegalAccess spent 2"},
		{"iconst -1, newarray I, return", "NegativeSize spent 2"},
		{"iconst -2147483648, newarray LI;, return", "NegativeSize spent 2"},
		{"iconst 20000, newarray I, arraylength, print, return", "20000 returned spent 5"},
		{"iconst 20001, newarray I, return", "OutOfMemory spent 2"},
		{"iconst 2147483647, newarray LA;, return", "OutOfMemory spent 2"},
		{"iconst 19999, newarray I, iconst 1, newarray LA;, iconst 0, newarray I, iconst 1, newarray I, return", "OutOfMemory spent 8"},
		{"iconst 1, newarray " + strings.Repeat("[", 254) + "I, arraylength, print, return", "1 returned spent 5"},
	})
}

func TestMultiNew(t *testing.T) { // P22.2: the last of counts is taken first; its errors in their order
	runsPieces(t, "()V", nil, []piece{
		{"iconst 2, iconst 3, multinew 2 [[I, dup, printclass, dup, arraylength, print, iconst 1, aaload, dup, printclass, arraylength, print, return", "[[I 2 [I 3 returned spent 15"},
		{"iconst 2, multinew 1 [[I, iconst 1, aaload, ifnull 6, return, iconst 1, print, return", "1 returned spent 8"},
		{"iconst 2, multinew 1 [LA;, printclass, return", "[LA; returned spent 4"},
		{"iconst 1, iconst 2, iconst 3, multinew 3 [[[[LI;, iconst 0, aaload, iconst 1, aaload, dup, printclass, arraylength, print, return", "[[LI; 3 returned spent 13"},
		{"iconst 0, iconst 3, multinew 2 [[I, arraylength, print, return", "0 returned spent 6"},
		{"iconst 1, iconst 1, multinew 2 [[Lno/Such;, return", "NoClassDef spent 3"},
		{"iconst -1, iconst 1, multinew 2 [[Lno/Such;, return", "NoClassDef spent 3"},
		{"iconst -1, iconst 1, multinew 2 [[Lq/Shut;, return", "IllegalAccess spent 3"},
		{"iconst -1, iconst 1, multinew 2 [[I, return", "NegativeSize spent 3"},
		{"iconst 0, iconst -1, multinew 2 [[I, return", "NegativeSize spent 3"},
		{"iconst 30000, iconst -1, multinew 2 [[I, return", "NegativeSize spent 3"},
		{"iconst 1000, iconst 0, multinew 2 [[I, return", "OutOfMemory spent 3"},
		{"iconst 999, iconst 0, multinew 2 [[I, arraylength, print, return", "999 returned spent 6"},
		{"iconst 2, iconst 9999, multinew 2 [[I, arraylength, print, return", "2 returned spent 6"},
		{"iconst 2, iconst 10000, multinew 2 [[I, return", "OutOfMemory spent 3"},
		{"iconst 2147483647, iconst 2147483647, multinew 2 [[I, return", "OutOfMemory spent 3"},
	})
	// As many counts as there is room for.
	ones := strings.Repeat("iconst 1, ", 40)
	l := linkerOf(t, pieceOf(t, "()V", ones+"multinew 40 "+strings.Repeat("[", 255)+"I, printclass, return", 40))
	newSubject(t, l, 0).says(t, "A.f()V", nil, plenty, strings.Repeat("[", 255)+"I returned spent 43")
}

func TestObjectsRunOut(t *testing.T) { // P22.2: OutOfMemory, at the object number 1001
	loop := func(made string) string {
		return fmt.Sprintf("%s, pop, iload 0, iconst 1, iadd, istore 0, iload 0, iconst 1000, ifcmplt 0, %s, return", made, made)
	}
	l := linkerOf(t, append(sampleClasses(), class("A", "Object", method(t, "objects()V", static, loop("new B1")), method(t, "last()V", static, strings.Replace(loop("new B1"), "iconst 1000", "iconst 999", 1)), method(t, "abstract()V", static, loop("new B1")+", return")))...)
	s := newSubject(t, l, 1)
	s.says(t, "A.objects()V", nil, api.MaxFuel, "OutOfMemory spent 9001")
	s.says(t, "A.last()V", nil, api.MaxFuel, "returned spent 8993")
	// In a full heap, what is named ahead of it.
	for line, want := range map[string]string{"new D": "Instantiation", "new I": "Instantiation", "new no/Such": "NoClassDef", "iconst -1, newarray I": "NegativeSize", "iconst 0, newarray I": "OutOfMemory", "iconst 0, multinew 1 [I": "OutOfMemory", "iconst -1, multinew 1 [I": "NegativeSize"} {
		full := strings.Replace(loop("new B1"), "ifcmplt 0, new B1", "ifcmplt 0, "+line, 1)
		x := newSubject(t, linkerOf(t, append(sampleClasses(), class("A", "Object", method(t, "f()V", static, full)))...), 1)
		x.says(t, "A.f()V", nil, api.MaxFuel, fmt.Sprint(want, " spent ", 9001+strings.Count(line, ",")))
	}
}

func TestArrays(t *testing.T) { // P22.2: arraylength, loads and stores, with their errors in their order
	ints, refs, grid := "iconst 2, newarray I", "iconst 2, newarray LB0;", "iconst 2, newarray [I"
	set := func(array, value string) piece {
		line := "iastore"
		if strings.HasPrefix(value, "n") {
			line = "aastore"
		}
		return piece{array + ", iconst 1, " + value + ", " + line + ", return", "returned spent 6"}
	}
	runsPieces(t, "()V", nil, []piece{
		{ints + ", arraylength, print, return", "2 returned spent 5"},
		{refs + ", arraylength, print, return", "2 returned spent 5"},
		{"null, arraylength, return", "NullPointer spent 2"},
		{"new A, arraylength, return", "Malformed spent 2"},
		{"iconst 0, arraylength, return", "Malformed spent 2"},

		{ints + ", astore 0, aload 0, iconst 1, iconst -9, iastore, aload 0, iconst 1, iaload, print, aload 0, iconst 0, iaload, print, return", "-9 0 returned spent 16"},
		{ints + ", iconst 2, iaload, return", "IndexBounds spent 4"},
		{ints + ", iconst -1, iaload, return", "IndexBounds spent 4"},
		{ints + ", iconst 2147483647, iaload, return", "IndexBounds spent 4"},
		{ints + ", iconst -2147483648, iaload, return", "IndexBounds spent 4"},
		{"iconst 0, newarray I, iconst 0, iaload, return", "IndexBounds spent 4"},
		{"null, iconst 5, iaload, return", "NullPointer spent 3"},
		{"new A, iconst 5, iaload, return", "Malformed spent 3"},
		{refs + ", iconst 5, iaload, return", "Malformed spent 4"},
		{grid + ", iconst 5, iaload, return", "Malformed spent 4"},
		{ints + ", iconst 5, aaload, return", "Malformed spent 4"},
		{"null, iconst 5, aaload, return", "NullPointer spent 3"},
		{"new A, iconst 5, aaload, return", "Malformed spent 3"},
		{refs + ", iconst 2, aaload, return", "IndexBounds spent 4"},
		{refs + ", iconst -1, aaload, return", "IndexBounds spent 4"},

		set(ints, "iconst 5"), set(ints, "iconst 2147483647"), set(ints, "iconst -2147483648"), set(refs, "null"), set(refs, "new B0"), set(refs, "new B1"), set(refs, "new q/Open"), set(grid, "null"),
		{grid + ", iconst 0, " + ints + ", aastore, return", "returned spent 7"},
		{grid + ", iconst 0, " + refs + ", aastore, return", "ArrayStore spent 6"},
		{refs + ", iconst 0, " + refs + ", aastore, return", "ArrayStore spent 6"},
		{"iconst 2, newarray LObject;, iconst 0, " + refs + ", aastore, return", "returned spent 7"},
		{"iconst 2, newarray LI;, iconst 0, new B1, aastore, return", "returned spent 6"},
		{"iconst 2, newarray LI;, iconst 0, new A, aastore, return", "ArrayStore spent 5"},
		{refs + ", astore 0, aload 0, iconst 1, new B1, aastore, aload 0, iconst 1, aaload, printclass, aload 0, iconst 0, aaload, ifnull 16, return, return", "B1 returned spent 16"},
		{refs + ", iconst 0, new A, aastore, return", "ArrayStore spent 5"},
		{refs + ", iconst 0, new Object, aastore, return", "ArrayStore spent 5"},
		{refs + ", iconst 2, new A, aastore, return", "IndexBounds spent 5"},
		{refs + ", iconst -1, new B1, aastore, return", "IndexBounds spent 5"},
		{refs + ", iconst 2, null, aastore, return", "IndexBounds spent 5"},
		{ints + ", iconst 2, iconst 1, iastore, return", "IndexBounds spent 5"},
		{ints + ", iconst -1, iconst 1, iastore, return", "IndexBounds spent 5"},
		{ints + ", iconst 5, null, aastore, return", "Malformed spent 5"},
		{refs + ", iconst 5, iconst 1, iastore, return", "Malformed spent 5"},
		{grid + ", iconst 5, iconst 1, iastore, return", "Malformed spent 5"},
		{"new A, iconst 5, iconst 1, iastore, return", "Malformed spent 4"},
		{"new A, iconst 5, null, aastore, return", "Malformed spent 4"},
		{"null, iconst 5, iconst 1, iastore, return", "NullPointer spent 4"},
		{"null, iconst -5, new A, aastore, return", "NullPointer spent 4"},
	})
}

func TestCasts(t *testing.T) { // P22.2: checkcast and instanceof; null is asked nothing
	same := func(made, text string, below bool) []piece {
		n := strings.Count(made, ",") + 1
		out := []piece{
			{made + ", instanceof " + text + ", print, return", fmt.Sprint("0 returned spent ", n+3)},
			{made + ", checkcast " + text + ", pop, return", fmt.Sprint("ClassCast spent ", n+1)},
		}
		if below {
			out[0].want = "1" + out[0].want[1:]
			out[1].want = fmt.Sprint("returned spent ", n+3)
		}
		return out
	}
	array, grid := "iconst 1, newarray LB1;", "iconst 1, iconst 1, multinew 2 [[I"
	runsPieces(t, "()V", nil, slices.Concat(
		same("new B1", "B1", true), same("new B1", "B0", true), same("new B1", "I", true), same("new B1", "Object", true), same("new B0", "B1", false), same("new A", "I", false), same("new B1", "Cloneable", false), same("new B1", "D", false),
		same("new B1", "[I", false), same("new B1", "[LB1;", false), same(array, "[LB1;", true), same(array, "[LB0;", true), same(array, "[LI;", true), same(array, "[LObject;", true), same(array, "Object", true), same(array, "Cloneable", true), same(array, "Serializable", true),
		same(array, "[LD;", false), same(array, "B1", false), same(array, "[I", false), same(array, "[[LB1;", false), same(grid, "[[I", true), same(grid, "[LObject;", true), same(grid, "[LCloneable;", true), same(grid, "[I", false), same(grid, "[[LObject;", false),
		[]piece{
			{"new B1, dup, checkcast I, ifacmpeq 5, return, iconst 1, print, return", "1 returned spent 7"},
			{"new B1, checkcast I, printclass, return", "B1 returned spent 4"},
			{"null, checkcast B1, ifnull 4, return, iconst 1, print, return", "1 returned spent 6"},
			{"null, checkcast no/Such, ifnull 4, return, iconst 1, print, return", "1 returned spent 6"},
			{"null, checkcast q/Shut, pop, return", "returned spent 4"},
			{"null, instanceof B1, print, return", "0 returned spent 4"},
			{"null, instanceof Object, print, return", "0 returned spent 4"},
			{"null, instanceof no/Such, print, return", "0 returned spent 4"},
			{"null, instanceof [Lq/Shut;, print, return", "0 returned spent 4"},
			{"new B1, checkcast no/Such, return", "NoClassDef spent 2"},
			{"new B1, checkcast [Lno/Such;, return", "NoClassDef spent 2"},
			{"new B1, instanceof no/Such, return", "NoClassDef spent 2"},
			{"new B1, checkcast q/Shut, return", "IllegalAccess spent 2"},
			{"new q/Open, checkcast q/Shut, return", "IllegalAccess spent 2"},
			{"new B1, instanceof [[Lq/Shut;, return", "IllegalAccess spent 2"},
			{"new B1, instanceof q/Shut, return", "IllegalAccess spent 2"},
		}))
}

func TestPrints(t *testing.T) { // P22.2: print and printclass, by type of what is printed
	runsPieces(t, "()V", nil, []piece{
		{"iconst -1, print, iconst 10, print, iconst -2147483648, print, return", "-1 10 -2147483648 returned spent 7"},
		{"new q/Open, printclass, return", "q/Open returned spent 3"},
		{"iconst 1, newarray I, printclass, return", "[I returned spent 4"},
		{"iconst 1, newarray Lq/Open;, printclass, return", "[Lq/Open; returned spent 4"},
		{"null, printclass, return", "NullPointer spent 2"},
		{"iconst 1, print, null, printclass, return", "1 NullPointer spent 4"},
		{"iconst 1, print, iconst 2, print, iconst 0, arraylength, return", "1 2 Malformed spent 6"},
	})
	l := linkerOf(t, class("A", "Object", method(t, "f()V", static, "iconst -7, print, iconst 0, newarray I, printclass, return")))
	got, e := newEngine(t, l, 0).Run(ref("A.f()V"), nil, plenty)
	if e != api.OK || got.Out != "-7\n[I\n" {
		t.Errorf("Out = %q, %d", got.Out, e)
	}
}

func TestOutFull(t *testing.T) { // P22.2: full to the last byte, and one beyond
	// Each turn writes 8 bytes, and 512 of them are all that there is room for.
	fill := func(turns int, rest string) string {
		return fmt.Sprintf("iconst 1234567, print, iload 0, iconst 1, iadd, istore 0, iload 0, iconst %d, ifcmplt 0, %s, return", turns, rest)
	}
	long := "L" + strings.Repeat("x", 60) // a class whose text is 60 bytes long
	for _, c := range []struct {
		turns int
		rest  string
		bytes int
		want  api.Errno
	}{
		{512, "return", 4096, api.OK}, {512, "iconst 0, print", 4096, api.OutFull}, {512, "iconst -2147483648, print", 4096, api.OutFull}, {511, "iconst 1234567, print, iconst 1, print", 4096, api.OutFull},
		{511, "iconst 123456, print", 4095, api.OK}, {511, "iconst 123456, print, iconst 0, print", 4095, api.OutFull}, {511, "iconst 12345, print, iconst 0, print", 4096, api.OK}, {511, "iconst 12345, print, iconst 10, print", 4094, api.OutFull},
		{511, "iconst 12345678, print", 4088, api.OutFull}, {511, "iconst -1234567, print", 4088, api.OutFull}, {511, "iconst -123456, print", 4096, api.OK},
		{511, "new C123456, printclass", 4096, api.OK}, {511, "new C1234567, printclass", 4088, api.OutFull}, {512, "new A, printclass", 4096, api.OutFull}, {511, "iconst 0, newarray [LB12;, printclass", 4096, api.OK}, {511, "iconst 0, newarray [LB123;, printclass", 4088, api.OutFull},
		{504, "new " + long[1:] + ", printclass", 4093, api.OK}, {505, "new " + long[1:] + ", printclass", 4040, api.OutFull},
		// What is taken is looked at first.
		{512, "null, printclass", 4096, api.NullPointer}, {512, "null, print", 4096, api.Malformed}, {512, "print", 4096, api.Malformed}, {512, "iconst 1, printclass", 4096, api.Malformed},
	} {
		l := linkerOf(t, class("C123456", "Object"), class("C1234567", "Object"), class("B12", "Object"), class("B123", "Object"), class(long[1:], "Object"), class("A", "Object", method(t, "f()V", static, fill(c.turns, c.rest))))
		got, e := newSubject(t, l, 0).run(t, ref("A.f()V"), nil, api.MaxFuel)
		if e != api.OK || got.Thrown != c.want || len(got.Out) != c.bytes {
			t.Errorf("%d turns, %s: %d bytes, %s, want %d, %s", c.turns, c.rest, len(got.Out), word(got.Thrown), c.bytes, word(c.want))
		}
		if !strings.HasPrefix(got.Out, strings.Repeat("1234567\n", c.turns)) || !strings.HasSuffix(got.Out, "\n") {
			t.Errorf("%s: %d bytes are not whole lines", c.rest, len(got.Out))
		}
	}
}
