package driver

import (
	"fmt"
	"maps"
	"slices"
	"strings"
	"testing"

	"arbiter/code"
	"arbiter/engine"
)

// Words that are numbers, and such as are none.
var (
	greatNumbers = []string{"9223372036854775807", "-9223372036854775807", "9223372036854775806", "-9223372036854775806", "1000000000000000000", "-1000000000000000000", "4294967296", "2147483648", "-2147483649"}
	noNumbers    = []string{
		"", "-", "--1", "+", "+1", "+0", "-0", "00", "01", "-01", "-00", "007", "0x1", "0X1", "0b1", "1e1", "1.0", "1.", ".1", "1_0", "1-", "1-2", "x", "1x", "x1", "1\t", "\t1", "1\r", "1\x00", "\u0661", "\uff11", "\u00b2", "\u22121", "\xff", "#", "NaN", "inf", "fuel", "0-", "-x", "1,0", "'1'",
		"9223372036854775808", "-9223372036854775808", "9223372036854775809", "-9223372036854775809", "9999999999999999999", "-9999999999999999999", "09223372036854775807", "-09223372036854775807", "+9223372036854775807",
		"10000000000000000000", "-10000000000000000000", "12345678901234567890", "18446744073709551615", "18446744073709551616", "18446744073709551617", "-18446744073709551615", "00000000000000000001", "0000000000000000001", "340282366920938463463374607431768211457", strings.Repeat("1", 300), strings.Repeat("0", 19) + "1",
	}
)

func TestCache(t *testing.T) { // P24.1
	table := map[string]string{"cache": "error 4", "cache ": "error 4", "cache  ": "error 4", "cache 0": "cached", "cache -1": "error 7", "cache 65": "error 7", "cache 66": "error 7", "cache -2": "error 7", "cache -64": "error 7", "cache 100": "error 7", "cache 128": "error 7"}
	for n := range 65 {
		table[fmt.Sprint("cache ", n)] = "cached"
		table[fmt.Sprint("cache 0", n)] = "error 4"
		table[fmt.Sprint("cache +", n)] = "error 4"
		table[fmt.Sprint("cache  ", n)] = "error 4"
		table[fmt.Sprint("cache ", n, " ")] = "error 4"
		table[fmt.Sprint("cache ", n, " ", n)] = "error 4"
	}
	for _, word := range greatNumbers {
		table["cache "+word] = "error 7"
		table["cache "+word+" 1"] = "error 4"
	}
	for _, word := range noNumbers {
		table["cache "+word] = "error 4"
		table["cache 1 "+word] = "error 4"
		table["cache "+word+" 1"] = "error 4"
	}
	table["cache x y"], table["cache 1 2 3"], table["cache one"], table["cache N"], table["cache cache 1"] = "error 4", "error 4", "error 4", "error 4", "error 4"
	each(t, "", nil, table)
}

// methodsThatRun are methods of the class Main.
func methodsThatRun() []string {
	many := func(count int, line string) string { return strings.TrimSuffix(strings.Repeat(line+", ", count), ", ") }
	return []string{
		method("f ()V public static", "return"),
		method("one (I)I public static", "iload 0, ireturn"),
		method("two (II)I public static", "iload 0, iload 1, isub, ireturn"),
		method("twenty (IIIIIIIIIIIIIIIIIIII)I public static", "iload 0, iload 19, iadd, ireturn"),
		method("ref (LMain;)V public static", "return"),
		method("object ()LMain; public static", "new Main, areturn"),
		method("second ()LObject; public static", "new Main, pop, new Object, areturn"),
		method("null ()LMain; public static", "null, areturn"),
		method("array ()[I public static", "iconst 3, newarray I, areturn"),
		method("five ()V public static", "iconst 5, print, return"),
		method("least ()I public static", "iconst -2147483648, print, iconst 0, print, iconst -2147483648, ireturn"),
		method("class ()V public static", "new Main, printclass, iconst 2, newarray LMain;, printclass, return"),
		method("half ()I public static", "iconst 1, print, iconst 0, idiv, ireturn"),
		method("loop ()V public static", "goto 0"),
		method("full ()V public static", many(60, "iconst 5, print")+", goto 0"),
		method("deep ()V public static", "invokestatic Main.deep()V, return"),
		method("many ()I public static", many(40, "iconst -7, print")+", iconst 1, ireturn"),
		method("own ()I public", "iconst 1, ireturn"),
		method("shut ()V private static", "return"),
	}
}

func mainThatRuns() string {
	text := class("Main", "Object", methodsThatRun()...)
	return strings.ReplaceAll(text, "method twenty (IIIIIIIIIIIIIIIIIIII)I public static\nlocals 8\n", "method twenty (IIIIIIIIIIIIIIIIIIII)I public static\nlocals 20\n")
}

func TestRun(t *testing.T) { // P24.1: how runs end, and what they write
	repeated := func(line string, count int, end string) string { return strings.Repeat(line+", ", count) + end }
	args := func(count int) string { return strings.Repeat(" 1", count) }
	each(t, mainThatRuns()+iface("I", method("s ()I public static", "iconst 9, ireturn"))+class("Below", "Main"), []string{"defined 3", "defined 4", "defined 5"}, map[string]string{
		"run Main.f()V fuel 1":                                            "returned spent 1",
		"run Main.f()V fuel 100000":                                       "returned spent 1",
		"run Main.f()V fuel 9223372036854775807":                          "returned spent 1",
		"run Main.f()V fuel 0":                                            "thrown 36 spent 0",
		"run Main.f()V fuel -1":                                           "thrown 36 spent 0",
		"run Main.f()V fuel -9223372036854775807":                         "thrown 36 spent 0",
		"run Main.one(I)I 5 fuel 2":                                       "returned 5 spent 2",
		"run Main.one(I)I 0 fuel 2":                                       "returned 0 spent 2",
		"run Main.one(I)I -7 fuel 2":                                      "returned -7 spent 2",
		"run Main.one(I)I 2147483647 fuel 2":                              "returned 2147483647 spent 2",
		"run Main.one(I)I -2147483648 fuel 2":                             "returned -2147483648 spent 2",
		"run Main.one(I)I 2147483648 fuel 2":                              "error 2",
		"run Main.one(I)I -2147483649 fuel 2":                             "error 2",
		"run Main.one(I)I 9223372036854775807 fuel 2":                     "error 2",
		"run Main.one(I)I 4294967297 fuel 2":                              "error 2",
		"run Main.one(I)I fuel 2":                                         "error 2",
		"run Main.one(I)I 1 2 fuel 2":                                     "error 2",
		"run Main.one(I)I 5 fuel 1":                                       "thrown 36 spent 1",
		"run Main.two(II)I 7 9 fuel 9":                                    "returned -2 spent 4",
		"run Main.two(II)I 9 7 fuel 9":                                    "returned 2 spent 4",
		"run Main.two(II)I 9 fuel 9":                                      "error 2",
		"run Main.twenty(IIIIIIIIIIIIIIIIIIII)I" + args(19) + " 8 fuel 9": "returned 9 spent 4",
		"run Main.twenty(IIIIIIIIIIIIIIIIIIII)I 8" + args(19) + " fuel 9": "returned 9 spent 4",
		"run Main.twenty(IIIIIIIIIIIIIIIIIIII)I" + args(21) + " fuel 9":   "error 2",
		"run Main.ref(LMain;)V 1 fuel 9":                                  "error 2",
		"run Main.ref(LMain;)V fuel 9":                                    "error 2",
		"run Main.object()LMain; fuel 9":                                  "returned ref 1 spent 2",
		"run Main.second()LObject; fuel 9":                                "returned ref 2 spent 4",
		"run Main.null()LMain; fuel 9":                                    "returned ref 0 spent 2",
		"run Main.array()[I fuel 9":                                       "returned ref 1 spent 3",
		"run Main.five()V fuel 9":                                         "> 5, returned spent 3",
		"run Main.five()V fuel 2":                                         "> 5, thrown 36 spent 2",
		"run Main.five()V fuel 1":                                         "thrown 36 spent 1",
		"run Main.least()I fuel 9":                                        "> -2147483648, > 0, returned -2147483648 spent 6",
		"run Main.class()V fuel 9":                                        "> Main, > [LMain;, returned spent 6",
		"run Main.half()I fuel 9":                                         "> 1, thrown 35 spent 4",
		"run Main.loop()V fuel 77":                                        "thrown 36 spent 77",
		"run Main.loop()V fuel 100000":                                    "thrown 36 spent 100000",
		"run Main.loop()V fuel 100001":                                    "thrown 36 spent 100000",
		"run Main.full()V fuel 100000":                                    repeated("> 5", 2048, "thrown 37 spent 4132"),
		"run Main.deep()V fuel 100000":                                    "thrown 33 spent 235",
		"run Main.many()I fuel 100":                                       repeated("> -7", 40, "returned 1 spent 82"),
		"run Main.own()I fuel 9":                                          "thrown 23 spent 0",
		"run Main.shut()V fuel 9":                                         "returned spent 1",
		"run Below.shut()V fuel 9":                                        "thrown 22 spent 0",
		"run Below.five()V fuel 9":                                        "> 5, returned spent 3",
		"run Main.none()V fuel 9":                                         "thrown 21 spent 0",
		"run Main.id()I fuel 9":                                           "thrown 23 spent 0",
		"run Main:f()V fuel 9":                                            "thrown 23 spent 0",
		"run Main.<init>()V fuel 9":                                       "thrown 35 spent 0",
		"run I:s()I fuel 9":                                               "returned 9 spent 2",
		"run I.s()I fuel 9":                                               "thrown 23 spent 0",
		"run No.f()V fuel 9":                                              "thrown 20 spent 0",
		"run [LMain;.f()V fuel 9":                                         "thrown 21 spent 0",
		"run [LNo;.f()V fuel 9":                                           "thrown 20 spent 0",
		"run fuel.f()V fuel 9":                                            "thrown 20 spent 0",
	})
}

// TestRunOfWrongWords: each word wrong in each way, alone.
func TestRunOfWrongWords(t *testing.T) { // P24.1
	table := map[string]string{}
	for _, word := range noNumbers {
		table["run Main.f()V fuel "+word] = "error 4"
		table["run Main.one(I)I 5 fuel "+word] = "error 4"
		table["run Main.one(I)I "+word+" fuel 5"] = "error 4"
		table["run Main.two(II)I "+word+" 5 fuel 5"] = "error 4"
		table["run Main.two(II)I 5 "+word+" fuel 5"] = "error 4"
		table["run Main.f()V fuel 5 "+word] = "error 4"
		table["run "+word+" fuel 5"] = "error 4"
		table["run "+word+" Main.f()V fuel 5"] = "error 4"
		if word != "fuel" {
			table["run Main.f()V "+word+" 5"] = "error 4"
		}
	}
	for _, word := range []string{"fue", "fuels", "Fuel", "FUEL", "fuel:", "fuel\t", "\tfuel", "fuel\r", "fuel5", "5", "from", "with"} {
		table["run Main.f()V "+word+" 5"] = "error 4"
		table["run Main.one(I)I 1 "+word+" 5"] = "error 4"
	}
	for _, ref := range []string{"", "Main", "Main.f", "Main.f()", "Main.f(V", "Main.f)V", "f()V", ".f()V", "Main.()V", "Main..f()V", "Main.f.f()V", "Main:.f()V", "Main.f()VV", "Main.f()X", "Main.f(V)V", "Main.f()LMain", "p.Main.f()V", "p//Main.f()V", "/Main.f()V", "LMain;.f()V", "I.f(I", "[.f()V", "[V.f()V", "Main.<clinit>()V", "Main.<f>()V", "1.f()V", "Main.1()V", "Main.f(" + strings.Repeat("I", 21) + ")V", "Main.f()" + strings.Repeat("[", 256) + "I", strings.Repeat("a", 61) + ".f()V", "Main." + strings.Repeat("a", 61) + "()V", "5", "fuel", "Main.f()V\t", "Main.f()V\r", "\xff.f()V", "#"} {
		table["run "+ref+" fuel 5"] = "error 4"
		table["run "+ref+" 1 fuel 5"] = "error 4"
	}
	for _, line := range []string{"run", "run ", "run  ", "run Main.f()V", "run Main.f()V ", "run Main.f()V fuel", "run Main.f()V fuel ", "run Main.f()V 5", "run Main.one(I)I 5 5", "run fuel", "run fuel 5", "run 5", "run 5 fuel 5", "run fuel 5 Main.f()V", "run Main.f()V fuel fuel 5", "run Main.f()V fuel 5 fuel", "run Main.f()V fuel 5 fuel 5", "run Main.one(I)I fuel 5 fuel 5", "run Main.f()V fuel 5 5", "run Main.f()V 5 fuel", "run Main.one(I)I fuel 5 5",
		"run  Main.f()V fuel 5", "run Main.f()V  fuel 5", "run Main.f()V fuel  5", "run Main.f()V fuel 5 ", "run Main.one(I)I  5 fuel 5", "run Main.one(I)I 5  fuel 5", "run Main.f()V Main.f()V fuel 5", "run run Main.f()V fuel 5", "run Main.f()V, fuel 5", "run Main.f()V fuel 5 # x"} {
		table[line] = "error 4"
	}
	each(t, mainThatRuns(), []string{"defined 3"}, table)
}

// TestOrderOfErrors: where two of what may be wrong hold at once, what is named first is answered.
func TestOrderOfErrors(t *testing.T) { // R2
	each(t, mainThatRuns(), []string{"defined 3"}, map[string]string{
		// The form is ahead of what Run answers, and that of what it throws.
		"run Main.one(I)I 1 2 fuel 05":       "error 4",
		"run Main.one(I)I fuel":              "error 4",
		"run Main.one(I)I 4294967296 fuel":   "error 4",
		"run No.one(LNo;)V 1 2 fuel x":       "error 4",
		"run No.one(I)I 1 2 fuel 5":          "error 2",
		"run No.one(LNo;)V 1 fuel 0":         "error 2",
		"run Main.one(I)I 2147483648 fuel 0": "error 2",
		"run No.f()V fuel 0":                 "thrown 20 spent 0",
		"run Main.five()V fuel 0":            "thrown 36 spent 0",
		// The form is ahead of the capacity.
		"cache 65 66":               "error 4",
		"cache 065":                 "error 4",
		"cache 65 ":                 "error 4",
		"cache  65":                 "error 4",
		"cache 9223372036854775808": "error 4",
		// The length is ahead of the form, of the command, and of the words of a question.
		upTo(2001, "define x", "x"):              "error 5",
		upTo(2001, "cache 65 66", "6"):           "error 5",
		upTo(2001, "run Main.one(I)I fuel", " "): "error 5",
		upTo(2001, "chains ", " "):               "error 5",
		upTo(2001, "chain No", "o"):              "error 5",
		// What begins with # is ahead of the length.
		upTo(2001, "#", " "): "",
	})
	// Within a class: the size is ahead of the lines, those of whether the class is sound, and that of whether it may arrive.
	large := "define\n" + strings.Repeat("x\n", 20001) + "end\n"
	says(t, large, "error 5 at 0")
	says(t, by("00", by("10", class("Object", "No"))), "error 1 at 0")
	says(t, by("00", class("Object", "No")), "error 4 at 4")
	says(t, by("10", class("Object", "No")), "error 1 at 0")
	says(t, class("Object", "No"), "error 25")
}

// capacityLines turn the engine, or try to.
var capacityLines = map[string]string{"cache 0": "cached", "cache 1": "cached", "cache 2": "cached", "cache 3": "cached", "cache 64": "cached", "cache 65": "error 7", "cache -1": "error 7", "cache": "error 4", "cache 02": "error 4", "cache 1 2": "error 4"}

// TestCacheBetweenRuns: neither another engine nor a capacity that is refused turns an answer; each engine runs in the session's world.
func TestCacheBetweenRuns(t *testing.T) { // P24.1, P0.2
	m := method("m ()I public", "iconst 7, ireturn")
	script := []string{
		class("A", "Object", method("m ()I public", "iconst 4, ireturn")), "defined 3",
		main("()I", "new A, invokevirtual A.m()I, print, new B, invokevirtual A.m()I, ireturn", method("again ()V public static", "invokestatic Main.f()I, print, goto 0")), "defined 4",
		"run Main.f()I fuel 99\n", "> 4, thrown 20 spent 6",
		class("B", "A", m), "defined 5",
		"run Main.f()I fuel 99\n", "> 4, returned 7 spent 10",
		"run Main.again()V fuel 22\n", "> 4, > 7, > 4, thrown 36 spent 22",
		"run Main.f()I fuel 99\n", "> 4, returned 7 spent 10",
	}
	for line, answer := range capacityLines {
		for at := 0; at <= len(script); at += 2 {
			var text string
			var want []string
			for place := 0; place <= len(script); place += 2 {
				if place == at || at == len(script) {
					text, want = text+line+"\n", append(want, answer)
				}
				if place < len(script) {
					text, want = text+script[place], append(want, wanted(script[place+1])...)
				}
			}
			if got := Run(text); got != lines(want...) {
				t.Errorf("Run(%s) answered %q, wanted %q", show(text), got, lines(want...))
			}
		}
	}
	// One after the other, in some order.
	text, want := script[0]+script[2]+script[6], []string{"defined 3", "defined 4", "defined 5"}
	for _, line := range slices.Sorted(maps.Keys(capacityLines)) {
		text += line + "\nrun Main.f()I fuel 99\nrun Main.f()I fuel 9\n"
		want = append(want, capacityLines[line], "> 4", "returned 7 spent 10", "> 4", "thrown 36 spent 9")
	}
	says(t, text, want...)
}

// TestCapacities: by the words that its call sites have read, an engine is told to be of the capacity that the last cache asked for, or of 1.
func TestCapacities(t *testing.T) { // P24.1
	text := class("A", "Object", method("m ()I public", "iconst 4, ireturn")) + class("B", "A") + main("()V", "new A, invokevirtual A.m()I, pop, new B, invokevirtual A.m()I, pop, goto 0", method("g ()V public static", "new A, invokestatic Main.h(LA;)V, new B, invokestatic Main.h(LA;)V, goto 0"), method("h (LA;)V public static", "aload 0, invokevirtual A.m()I, pop, return"))
	reads := func(capacity int) int {
		s := Open()
		s.Feed(text)
		g, _ := engine.New(s.linker, capacity)
		ref, _ := code.ParseRefText("Main.g()V")
		g.Run(ref, nil, 5000)
		return g.Reads()
	}
	if reads(0) == reads(1) || reads(1) == reads(2) {
		t.Fatalf("capacities that can't be told apart: %d, %d, %d", reads(0), reads(1), reads(2))
	}
	for lines, capacity := range map[string]int{"": 1, "cache 0\n": 0, "cache 1\n": 1, "cache 2\n": 2, "cache 64\n": 64, "cache 2\ncache 0\n": 0, "cache 0\ncache 2\n": 2, "cache 2\ncache 65\n": 2, "cache 0\ncache -1\ncache 01\n": 0, "cache 65\n": 1} {
		s := Open()
		s.Feed(text + lines + "run Main.g()V fuel 5000\n")
		if got := s.engine.Reads(); got != reads(capacity) {
			t.Errorf("behind %q an engine has read %d words, wanted %d", lines, got, reads(capacity))
		}
	}
}

// TestRunsBehindArrivals: the same line, as long as classes arrive.
func TestRunsBehindArrivals(t *testing.T) { // P24.1, P0.2
	run := "run Main.f()I fuel 99\n"
	says(t, run+main("()I", "new A, invokevirtual A.m()I, ireturn")+run+example("B")+run+class("A", "B")+run+example("A")+run,
		"thrown 20 spent 0", "defined 3", "thrown 20 spent 1", "defined 4", "thrown 20 spent 1", "defined 5", "returned 5 spent 5", "error 25", "returned 5 spent 5")
	below := "run Main.f()I fuel 99\nselect virtual A.m()I B from Object\n"
	says(t, example("A")+main("()I", "new B, invokevirtual A.m()I, ireturn")+below+class("B", "A", method("m ()I public", "iconst 6, ireturn"))+below,
		"defined 3", "defined 4", "thrown 20 spent 1", "error 20", "defined 5", "returned 6 spent 5", "B.m()I")
}
